import PyProof.Rows.All
import Wide.All
import OpenK.AllK
import Wide.FinOn
import Lean
import PyProof.EqAt
import PyProof.EqKinds
import PyProof.TupleCall
import PyProof.NeKinds
import PyProof.NeData
import PyProof.P3In
import PyProof.ZipIter
import PyProof.Draws
import PyProof.StrWalks
import PyProof.IsiPairs
import PyProof.IsiSeqPairs
import PyProof.ConsumeWalk
import PyProof.ListStr
import PyProof.IsiHeapPairs
import PyProof.Rows.Range3
import PyProof.IsiNone
import KE.KRevIter
import KE.KRevSl
import PyProof.Conv_int_bool
import PyProof.ListRange
import PyProof.TupleOfSeq
import PyProof.MinMaxWalk
import PyProof.WalkInts
import PyProof.SeqI3
import PyProof.SetKind
import PyProof.Rows.SetFrom
import PyProof.CollectWalk
import PyProof.FactsAll.set
import PyProof.Rows.SortWalk
import PyProof.Rows.SortShell
import PyProof.Rows.SumAny
import PyProof.DictWalks
import PyProof.Rows.SortRev
import PyProof.Rows.SortStr
import PyProof.AttrMissHeap
import KE.KDictOf
import KE.KEqDict
import KE.KItemsList
import PyProof.Rows.SortKeyStr
import PyProof.FactsAll.subtypes_3
import PySem.Challenge.RW_fewfind_k80_sieves
set_option Elab.async false
set_option linter.all false
set_option maxRecDepth 100000
open PySem.W (instObj methodObj lookIn plainGet hasDictIn findIn plainGet_of isFn plainOver takerIn makesIn emptyDict keepIn callWith_K cellsFrom_some fnOf codeIn nsIn mg_of mg_none_of)
open PyProof.Rows (boot_sorted)
open List (mem_range filterMap_cons mem_cons_self mem_cons_of_mem mem_cons mem_append getElem?_set_self getElem?_set_ne mem_append_right size_toArray length_cons map_cons length_map append_nil nodup_cons getElem?_append_right getElem?_replicate getElem?_append_left getElem?_map length_append length_set replicate_succ flatten_cons append_assoc foldl_cons length_singleton nil_append map_nil getElem?_set drop_eq_getElem_cons drop_length lookup_cons set_set all_eq_true ext_getElem pairwise_iff_getElem pairwise_cons mem_map map_map getElem?_eq_getElem getElem?_cons_succ getElem_mem length_range mem_singleton find?_cons any_cons any_eq_true map_congr_left map_append getElem?_cons_zero set_cons_succ set_cons_zero map_id count_cons)
open Nat (lt_of_lt_of_le lt_irrefl ne_of_lt le_trans le_of_lt ne_of_gt le_refl lt_succ_self zero_le le_succ lt_or_ge lt_trans zero_add lt_succ_of_lt)
open Int (toNat_natCast emod_nonneg)
open Array (length_toList getElem_toList getElem?_toList)
open PySem.W (Frag)
open PySem.Heap (get?_push_of_some)
namespace L2
open PySem PySem.Spec PyProof.Rows
theorem lnz1{α:Type _}{l:List α}(h:l.length=1):∃a,l=[a]:=List.length_eq_one_iff.mp h
theorem lnz2{α:Type _}{l:List α}(h:l.length=2):∃a b,l=[a,b]:=by
 match l,h with
 |[a,b],_=>exact⟨a,b,rfl⟩
theorem lnz3{α:Type _}{l:List α}(h:l.length=3):∃a b c,l=[a,b,c]:=by
 match l,h with
 |[a,b,c],_=>exact⟨a,b,c,rfl⟩
theorem lnz4{α:Type _}{l:List α}(h:l.length=4):∃a b c d,l=[a,b,c,d]:=by
 match l,h with
 |[a,b,c,d],_=>exact⟨a,b,c,d,rfl⟩
noncomputable abbrev Key:=Sum Int Str
noncomputable def Zi:Key→Value→Bool
 |.inl k,v=>Value.isInt k v
 |.inr x,v=>Value.isStrOf x v
noncomputable def keyH(w:World):Key→Int
 |.inl k=>hashInt k
 |.inr x=>hashStr w x
theorem yb:∀{k:Key} {v:Value},Zi k v=true→(∃i t,k=Sum.inl i∧v=Value.int i t)∨(∃x t,k=Sum.inr x∧v=Value.str x t)
 |.inl i,v,h=>by
  obtain⟨t,e⟩:=Value.isInt_shape (k:=i) (v:=v) h
  exact .inl ⟨i,t,rfl,e⟩
 |.inr x,v,h=>by
  obtain⟨t,e⟩:=Value.isStrOf_shape (x:=x) (v:=v) h
  exact .inr ⟨x,t,rfl,e⟩
theorem Vs(i:Int)(t:Tok):Zi (.inl i) (.int i t)=true:=by simp[Zi,Value.isInt]
theorem Vr(x:Str)(t:Tok):Zi (.inr x) (.str x t)=true:=by simp[Zi,Value.isStrOf]
theorem M1(a b:Int):decide ((Sum.inl a:Key)=Sum.inl b)=(a==b):=by
 by_cases e:a=b
 ·subst e;simp
 ·have h:¬ (Sum.inl a:Key)=Sum.inl b:=fun q=>e (Sum.inl.inj q)
  rw[decide_eq_false h]
  exact(beq_eq_false_iff_ne.mpr e).symm
theorem MY(a b:Str):decide ((Sum.inr a:Key)=Sum.inr b)=decide (a=b):=by
 by_cases e:a=b
 ·subst e;simp
 ·have h:¬ (Sum.inr a:Key)=Sum.inr b:=fun q=>e (Sum.inr.inj q)
  rw[decide_eq_false h,decide_eq_false e]
theorem M0(a:Int)(b:Str):decide ((Sum.inl a:Key)=Sum.inr b)=false:=decide_eq_false (fun q=>nomatch q)
theorem MZ(a:Str)(b:Int):decide ((Sum.inr a:Key)=Sum.inl b)=false:=decide_eq_false (fun q=>nomatch q)
noncomputable def zT(prog:Program)(w:World):PySem.KeyKind prog w Key where
 is:=Zi
 hash:=keyH w
 inj:=fun v a b ha hb=>by
  rcases yb ha with ⟨i,t,rfl,rfl⟩|⟨x,t,rfl,rfl⟩
  ·rcases yb hb with ⟨j,u,rfl,e⟩|⟨y,u,rfl,e⟩
   ·injection e with e1 _;rw[e1]
   ·exact nomatch e
  ·rcases yb hb with ⟨j,u,rfl,e⟩|⟨y,u,rfl,e⟩
   ·exact nomatch e
   ·injection e with e1 _;rw[e1]
 byValue:=fun k v h=>by
  rcases yb h with ⟨i,t,rfl,rfl⟩|⟨x,t,rfl,rfl⟩ <;> rfl
 pyHash:=fun hv h=>by
  rcases yb hv with ⟨i,t,rfl,rfl⟩|⟨x,t,rfl,rfl⟩
  ·exact wpAny_pyHash_int h
  ·exact wpAny_pyHash_str h
 eqBool:=fun hu hv h=>by
  rcases yb hu with ⟨i,t,rfl,rfl⟩|⟨x,t,rfl,rfl⟩
  ·rcases yb hv with ⟨j,u,rfl,rfl⟩|⟨y,u,rfl,rfl⟩
   ·rw[M1] at h;exact wpAny_eqBool_int h
   ·rw[M0] at h;exact SeqAt.EqAt.int_str i t y u _ _ _ _ h
  ·rcases yb hv with ⟨j,u,rfl,rfl⟩|⟨y,u,rfl,rfl⟩
   ·rw[MZ] at h;exact SeqAt.EqAt.str_int x t j u _ _ _ _ h
   ·rw[MY] at h;exact wpAny_eqBool_str h
 «strs»:=fun k x t v h=>by
  rcases yb h with ⟨i,u,rfl,e⟩|⟨y,u,rfl,e⟩
  ·exact nomatch e
  ·injection e with e1 _
   subst e1
   cases v <;> rfl
theorem YH(prog:Program)(w:World)(i:Int)(t:Tok):(zT prog w).is (.inl i) (.int i t)=true:=Vs i t
theorem YG(prog:Program)(w:World)(x:Str)(t:Tok):(zT prog w).is (.inr x) (.str x t)=true:=Vr x t
inductive V where
 | non|bl (b:Bool) | int (i:Int) | str (x:Str) | byt (b:Array UInt8) | flt (b:UInt64) | ref (a:Addr) | ty (n:String)
 deriving DecidableEq
noncomputable def RelV:V→Value→Prop
 |.non,u=>u=Value.none
 |.bl b,u=>u=Value.bool b
 |.int i,u=>∃t,u=Value.int i t
 |.str x,u=>∃t,u=Value.str x t
 |.byt b,u=>∃t,u=Value.bytes b t
 |.flt b,u=>∃t,u=Value.float b t
 |.ref a,u=>u=Value.ref a
 |.ty n,u=>u=Value.type n
noncomputable abbrev Vals:List V→List Value→Prop:=Paired RelV
theorem Vals.length{xs:List V}{us:List Value}(r:Vals xs us):xs.length=us.length:=Paired.length r
theorem Vals.get:∀{xs:List V} {us:List Value} {i:Nat} {x:V},Vals xs us→xs[i]?=some x→∃u,us[i]?=some u∧RelV x u
 |_,_,_,_,.nil,e=>by simp at e
 |_,_,0,_,.cons r _,e=>by simp at e;subst e;exact⟨_,rfl,r⟩
 |_,_,i+1,x,.cons _ t,e=>by
  obtain⟨u,h1,h2⟩:=Vals.get (i:=i) (x:=x) t (by simpa using e)
  exact⟨u,by simpa using h1,h2⟩
theorem Vals.set{x:V}{u:Value}(r:RelV x u):∀{xs:List V} {us:List Value} (i:Nat),Vals xs us→Vals (xs.set i x) (us.set i u)
 |_,_,_,.nil=>.nil
 |_,_,0,.cons _ t=>.cons r t
 |_,_,i+1,.cons q t=>.cons q (Vals.set r i t)
theorem Vals.append:∀{xs ys:List V} {us ws:List Value},Vals xs us→Vals ys ws→Vals (xs++ys) (us++ws)
 |_,_,_,_,.nil,s=>s
 |_,_,_,_,.cons r t,s=>.cons r (Vals.append t s)
theorem Vals.take:∀{xs:List V} {us:List Value} (n:Nat),Vals xs us→Vals (xs.take n) (us.take n)
 |_,_,0,_=>.nil
 |_,_,_+1,.nil=>.nil
 |_,_,n+1,.cons r t=>.cons r (Vals.take n t)
theorem Vals.drop:∀{xs:List V} {us:List Value} (n:Nat),Vals xs us→Vals (xs.drop n) (us.drop n)
 |_,_,0,r=>r
 |_,_,_+1,.nil=>.nil
 |_,_,n+1,.cons _ t=>Vals.drop n t
noncomputable def RelO:Option V→Option Value→Prop
 |some v,some u=>RelV v u
 |none,none=>True
 |_,_=>False
noncomputable def KV{κ:Type}:List (κ×V)→List (κ×Value)→Prop:=Paired fun (p:κ×V) (q:κ×Value)=>p.1=q.1∧RelV p.2 q.2
noncomputable def kV:Key→V
 |.inl i=>.int i
 |.inr x=>.str x
inductive HO where
 | lst (xs:List V)
 | tup (xs:List V)
 | dK (kvs:List (Key×V)) | dT (kvs:List (List Key×V))
 | set (S:Int→Bool) (n:Nat)
 | ins (C dx:Addr) (fs:List (Str×V))
 | own (x:Addr)
 | xd (fs:List (Str×V))
 | met (f x:Addr)
 | rng (lo hi:Int)
 | frz (o:Obj) (u:HO)
 | tbl (ps:Array Value)
 | ext (φ:Heap→Prop)
noncomputable abbrev Hp:=Addr→Option HO
noncomputable def upd(H:Hp)(a:Addr)(o:HO):Hp:=fun b=>if b=a then some o else H b
theorem zk{H:Hp}{a:Addr}{o:HO}:upd H a o a=some o:=by unfold upd;rw[if_pos rfl]
theorem zg{H:Hp}{a b:Addr}{o:HO}(h:b≠a):upd H a o b=H b:=by unfold upd;rw[if_neg h]
theorem ne_of{H:Hp}{a b:Addr}{o u:HO}(h:H a=some o)(h':H b=some u)(d:o≠u):a≠b:=by
 intro e;subst e;rw[h] at h';exact d (Option.some.inj h')
theorem zt{H:Hp}{a b:Addr}{o:HO}(h:H a=some o)(h':H b=none):a≠b:=by
 intro e;subst e;rw[h] at h';cases h'
section
variable(P:Program)(w:World)
noncomputable def ObjOk(H:Hp)(h:Heap)(a:Addr):HO→Prop
 |.lst xs=>xs.length≤sizeLine∧∃(its:List Value) (n:Nat),Vals xs its∧h.get? a=some { cls:=.type "list", data:=.seq its.toArray n }
 |.tup xs=>xs.length≤sizeLine∧∃its:List Value,Vals xs its∧IsTup h a its.toArray
 |.dK kvs=>kvs.length≤sizeLine∧(a==sysModules)=false∧∃vs,KV kvs vs∧h.DictOf (zT P w) a vs
 |.dT kvs=>kvs.length≤sizeLine∧(a==sysModules)=false∧∃xs:List (List Key×Addr×Value),
   Paired (fun (p:List Key×V) (q:List Key×Addr×Value)=>p.1=q.1∧H q.2.1=some (.tup (p.1.map kV))∧RelV p.2 q.2.2) kvs xs ∧
   ∃o es ep,h.get? a=some o∧o.ExactDict∧o.data=.dict es ep∧es.toList=xs.map (entryOfKey (tupleKind (zT P w)))∧(xs.map (·.1)).Nodup
 |.set S n=>h.SetOf (intKind P w) a S n
 |.ins C dx fs=>H dx=some (.own a)∧fs.length≤1000∧dx≠a∧h.get? a=some (instObj C dx) ∧
   ∃mA,h.Ns1 dx mA∧(∀f,RelO (fs.lookup f) (mA f))∧PySem.Within mA (fs.map (·.1))
 |.own _=>∃o,h.get? a=some o
 |.xd fs=>∃mA,h.Ns1 a mA∧∀f,RelO (fs.lookup f) (mA f)
 |.rng lo hi=>∃t u v,h.get? a=some { cls:=.type "range", data:=.fields #[.int lo t,.int hi u,.int 1 v] }
 |.frz o u=>h.get? a=some o∧ObjOk H h a u
 |.tbl ps=>h.get? a=some { cls:=.none,data:=.fields ps }
 |.met f x=>h.get? a=some (methodObj (.ref f) (.ref x))
 |.ext φ=>φ h∧(∃o,h.get? a=some o)∧∀h1 h2:Heap,φ h1→(∀o,h1.get? a=some o→h2.get? a=some o)→φ h2
noncomputable def HOk(H:Hp)(h:Heap):Prop:=∀a o,H a=some o→ObjOk P w H h a o
end
section
variable{P:Program}{w:World}{H H':Hp}{h h':Heap}{a:Addr}{o:HO}
theorem ObjOk.lt(x:ObjOk P w H h a o):a<h.objs.size:=by
 cases o with
 |lst xs=>obtain⟨_,_,_,_,e⟩:=x;exact Heap.lt_size e
 |tup xs=>obtain⟨_,_,_,p⟩:=x;exact p.lt
 |dK kvs=>obtain⟨_,_,_,_,o,_,_,e,_⟩:=x;exact Heap.lt_size e
 |dT kvs=>obtain⟨_,_,_,_,o,_,_,e,_⟩:=x;exact Heap.lt_size e
 |set S n=>obtain⟨o,_,_,_,e,_⟩:=x;exact Heap.lt_size e
 |ins C dx fs=>obtain⟨_,_,_,e,_⟩:=x;exact Heap.lt_size e
 |own y=>obtain⟨_,e⟩:=x;exact Heap.lt_size e
 |xd fs=>obtain⟨_,⟨_,_,_,e,_⟩,_⟩:=x;exact Heap.lt_size e
 |rng lo hi=>obtain⟨_,_,_,e⟩:=x;exact Heap.lt_size e
 |frz ob u=>obtain⟨e,_⟩:=x;exact Heap.lt_size e
 |tbl ps=>exact Heap.lt_size (show h.get? a=some _ from x)
 |met f y=>exact Heap.lt_size (show h.get? a=some _ from x)
 |ext φ=>obtain⟨_,⟨_,e⟩,_⟩:=x;exact Heap.lt_size e
theorem Paired.mapP{α β:Type}{F G:α→β→Prop}:∀{l₁:List α} {l₂:List β},Paired F l₁ l₂→(∀a b,F a b→G a b)→Paired G l₁ l₂
 |_,_,.nil,_=>.nil
 |_,_,.cons r t,f=>.cons (f _ _ r) (Paired.mapP t f)
theorem ObjOk.stay(x:ObjOk P w H h a o)(k:∀b u,(b=a∨H b=some (.own a))→h.get? b=some u→h'.get? b=some u)
  (ho:∀b,H b=some (.own a)→H' b=some (.own a)) (ht:∀b xs,H b=some (.tup xs)→H' b=some (.tup xs)):ObjOk P w H' h' a o:=by
 induction o with
 |lst xs=>obtain⟨z,its,n,r,e⟩:=x;exact⟨z,its,n,r,k _ _ (.inl rfl) e⟩
 |tup xs=>obtain⟨z,its,r,ob,e,c⟩:=x;exact⟨z,its,r,ob,k _ _ (.inl rfl) e,c⟩
 |dK kvs=>obtain⟨z,y,vs,r,ob,es,ep,e,c⟩:=x;exact⟨z,y,vs,r,ob,es,ep,k _ _ (.inl rfl) e,c⟩
 |dT kvs=>
  obtain⟨z,y,xs,r,ob,es,ep,e,c⟩:=x
  exact⟨z,y,xs,Paired.mapP r fun p q z=>⟨z.1,ht _ _ z.2.1,z.2.2⟩,ob,es,ep,k _ _ (.inl rfl) e,c⟩
 |set S n=>obtain⟨ob,es,ep,t,e,c⟩:=x;exact⟨ob,es,ep,t,k _ _ (.inl rfl) e,c⟩
 |ins C dx fs=>
  obtain⟨d,z,ne,e,mA,⟨od,es,ep,e2,c⟩,r⟩:=x
  exact⟨ho _ d,z,ne,k _ _ (.inl rfl) e,mA,⟨od,es,ep,k _ _ (.inr d) e2,c⟩,r⟩
 |own y=>obtain⟨ob,e⟩:=x;exact⟨ob,k _ _ (.inl rfl) e⟩
 |xd fs=>obtain⟨mA,⟨od,es,ep,e,c⟩,r⟩:=x;exact⟨mA,⟨od,es,ep,k _ _ (.inl rfl) e,c⟩,r⟩
 |rng lo hi=>obtain⟨t,u,v,e⟩:=x;exact⟨t,u,v,k _ _ (.inl rfl) e⟩
 |frz ob u ih=>obtain⟨e,q⟩:=x;exact⟨k _ _ (.inl rfl) e,ih q⟩
 |tbl ps=>
  have e:h.get? a=some { cls:=.none,data:=.fields ps }:=x
  show h'.get? a=some { cls:=.none,data:=.fields ps }
  exact k a _ (.inl rfl) e
 |met f y=>
  have e:h.get? a=some (methodObj (.ref f) (.ref y)):=x
  show h'.get? a=some (methodObj (.ref f) (.ref y))
  exact k a _ (.inl rfl) e
 |ext φ=>obtain⟨p,⟨o,e⟩,st⟩:=x;exact⟨st _ _ p fun o q=>k _ _ (.inl rfl) q,⟨o,k _ _ (.inl rfl) e⟩,st⟩
theorem HOk.lt(x:HOk P w H h)(e:H a=some o):a<h.objs.size:=(x a o e).lt
theorem HOk.fresh(x:HOk P w H h)(e:h.objs.size≤a):H a=none:=by
 cases q:H a with
 |none=>rfl
 |some u=>exact absurd (lt_of_lt_of_le (x.lt q) e) (lt_irrefl _)
theorem HOk.kept(x:HOk P w H h)(k:∀b u,h.get? b=some u→h'.get? b=some u):HOk P w H h':=fun a o e=>
 (x a o e).stay (fun b u _ q=>k b u q) (fun _ q=>q) fun _ _ q=>q
theorem HOk.laid(x:HOk P w H h)(k:∀b u,h.get? b=some u→h'.get? b=some u)(hp:h.objs.size≤a)(new:ObjOk P w (upd H a o) h' a o):HOk P w (upd H a o) h':=fun b u e=>by
 have hn:=x.fresh hp
 by_cases hb:b=a
 ·subst hb;rw[zk] at e;cases e;exact new
 ·rw[zg hb] at e
  exact(x b u e).stay (fun c v _ q=>k c v q) (fun c q=>by rw[zg (zt q hn)];exact q) fun c xs q=>by rw[zg (zt q hn)];exact q
end
noncomputable def Rd(H:Hp)(a:Addr)(u:HO):Prop:=H a=some u∨∃o,H a=some (.frz o u)
theorem Rd.ok{P:Program}{w:World}{H:Hp}{h:Heap}{a:Addr}{u:HO}(r:Rd H a u)(x:HOk P w H h):ObjOk P w H h a u:=by
 rcases r with r|⟨o,r⟩
 ·exact x a u r
 ·obtain⟨_,q⟩:=x a _ r
  exact q
noncomputable def Mut:Option HO→Prop
 | some (.lst _)=>True
 | some (.dK _)=>True
 | some (.dT _)=>True
 | some (.set _ _)=>True
 | some (.ins _ _ _)=>True
 | some (.ext _)=>True
 |_=>False
section
variable{P:Program}{w:World}{H:Hp}{h h':Heap}{x e:Addr}{o':HO}
theorem HOk.write(ok:HOk P w H h)(mu:Mut (H x))(he:e=x∨H e=some (.own x))(k:∀b u,b≠e→h.get? b=some u→h'.get? b=some u)(heo:∃u,h'.get? e=some u)
  (new:ObjOk P w (upd H x o') h' x o'):HOk P w (upd H x o') h':=fun b u q=>by
 have nown:∀c y,H c=some (.own y)→c≠x:=fun c y r z=>by subst z;rw[r] at mu;exact mu
 have ntup:∀c xs,H c=some (.tup xs)→c≠x:=fun c xs r z=>by subst z;rw[r] at mu;exact mu
 by_cases hb:b=x
 ·subst hb;rw[zk] at q;cases q;exact new
 ·rw[zg hb] at q
  by_cases hbe:b=e
  ·have q':H b=some (.own x):=by
    rcases he with z|z
    ·exact absurd (hbe.trans z) hb
    ·rw[hbe];exact z
   rw[q] at q';cases q'
   obtain⟨v,hv⟩:=heo
   exact⟨v,by rw[hbe];exact hv⟩
  ·refine(ok b u q).stay (fun c v hc r=>k c v ?_ r) (fun c r=>by rw[zg (nown c b r)];exact r) fun c xs r=>by rw[zg (ntup c xs r)];exact r
   rcases hc with rfl|hc
   ·exact hbe
   ·rintro rfl
    rcases he with z|z
    ·exact nown c b hc z
    ·rw[hc] at z;cases z;exact hb rfl
end
structure Un(fs ex:List Addr)(H H':Hp)(h h':Heap):Prop where
 keep:∀b o,h.get? b=some o→H b=none→b∉fs→b∉ex→h'.get? b=some o
 slot:∀b o,h.get? b=some o→H b=none→b∈fs→b∉ex→∃sl,h'.get? b=some { o with slots:=sl }
 free:∀b o,h.get? b=some o→H b=none→b∉ex→H' b=none
 there:∀b o,h.get? b=some o→b∉ex→∃o',h'.get? b=some o'
 tups:∀b xs,H b=some (.tup xs)→H' b=some (.tup xs)
 frzs:∀b o u,H b=some (.frz o u)→H' b=some (.frz o u)
 tbls:∀b ps,H b=some (.tbl ps)→∃more,H' b=some (.tbl (ps++more))
section
variable{fs fs' ex ex':List Addr}{H H1 H2:Hp}{h h1 h2 h':Heap}{a x e:Addr}{o:HO}
theorem Un.any(u:Un fs ex H H1 h h1){b:Addr}{ob:Obj}(q:h.get? b=some ob)(n:H b=none)(hx:b∉ex):∃sl,h1.get? b=some { ob with slots:=sl }:=by
 by_cases hb:b∈fs
 ·exact u.slot b ob q n hb hx
 ·exact⟨ob.slots,u.keep b ob q n hb hx⟩
theorem Un.kept(k:∀b u,h.get? b=some u→h'.get? b=some u):Un fs ex H H h h':=
 ⟨fun b ob q _ _ _=>k b ob q,fun b ob q _ _ _=>⟨ob.slots,k b ob q⟩,fun _ _ _ n _=>n,fun b ob q _=>⟨ob,k b ob q⟩,fun _ _ q=>q,fun _ _ _ q=>q,fun _ ps q=>⟨#[],by rw[q];simp⟩⟩
theorem Un.refl:Un fs ex H H h h:=Un.kept fun _ _ q=>q
theorem Un.laid(k:∀b u,h.get? b=some u→h'.get? b=some u)(hp:h.objs.size≤a)(hn:H a=none):Un fs ex H (upd H a o) h h' where
 keep:=fun b u q _ _ _=>k b u q
 slot:=fun b u q _ _ _=>⟨u.slots,k b u q⟩
 free:=fun b u q n _=>by rw[zg (ne_of_lt (lt_of_lt_of_le (Heap.lt_size q) hp))];exact n
 there:=fun b u q _=>⟨u,k b u q⟩
 tups:=fun b xs q=>by rw[zg (zt q hn)];exact q
 frzs:=fun b u xs q=>by rw[zg (zt q hn)];exact q
 tbls:=fun b ps q=>⟨#[],by rw[zg (zt q hn),q];simp⟩
theorem Un.write(mu:Mut (H x))(he:e=x∨H e=some (.own x))(k:∀b u,b≠e→h.get? b=some u→h'.get? b=some u)(heo:∃u,h'.get? e=some u):Un fs ex H (upd H x o) h h':=by
 have hx:∀b,H b=none→b≠x:=fun b n z=>by subst z;rw[n] at mu;exact mu
 have hb:∀b,H b=none→b≠e:=fun b n z=>by
  subst z
  rcases he with r|r
  ·exact hx b n r
  ·rw[n] at r;cases r
 have hm:∀b u,H b=some u→¬ Mut (some u)→b≠x:=fun b u q nm z=>by subst z;rw[q] at mu;exact nm mu
 refine⟨fun b u q n _ _=>k b u (hb b n) q,fun b u q n _ _=>⟨u.slots,k b u (hb b n) q⟩,fun b u q n _=>by rw[zg (hx b n)];exact n,fun b u q _=>?_,
  fun b xs q=>by rw[zg (hm b _ q fun z=>z)];exact q,fun b u xs q=>by rw[zg (hm b _ q fun z=>z)];exact q,fun b ps q=>⟨#[],by rw[zg (hm b _ q fun z=>z),q];simp⟩⟩
 by_cases hbe:b=e
 ·subst hbe;exact heo
 ·exact⟨u,k b u hbe q⟩
end
noncomputable def trk(h:Heap)(H:Hp):List Addr:=(List.range h.objs.size).filter fun a=>(H a).isSome
noncomputable def Z3(h:Heap)(H:Hp):Heap:=PySem.W.hideAll h (trk h H)
theorem Vy(h:Heap)(H:Hp):(Z3 h H).objs.size=h.objs.size:=PySem.W.hideAll_size _ _
theorem Jh{h:Heap}{H:Hp}{b:Addr}{o:Obj}(e:h.get? b=some o)(n:H b=none):(Z3 h H).get? b=some o:=
 PySem.W.hideAll_get _ e fun hm=>by
  have q:(H b).isSome=true:=(List.mem_filter.mp hm).2
  rw[n] at q;simp at q
theorem QG{h:Heap}{H:Hp}{b:Addr}{o:Obj}(e:(Z3 h H).get? b=some o):h.get? b=some o∧H b=none:=by
 have e':h.get? b=some o:=PySem.W.of_hideAll (trk h H) e
 refine⟨e',?_⟩
 cases q:H b with
 |none=>rfl
 |some x=>
  have hm:b∈trk h H:=List.mem_filter.mpr ⟨mem_range.mpr (Heap.lt_size e'),by simp[q]⟩
  have z:(Z3 h H).get? b=none:=PySem.W.hideAll_none (trk h H) hm
  rw[z] at e;cases e
noncomputable def GC(g h:Heap)(L:Addr):List (Addr×Obj):=(List.range h.objs.size).filterMap fun a=>if a=L∨(g.get? a).isSome=true then none else (h.get? a).map fun o=>(a,o)
noncomputable def rest(g h:Heap)(L d:Addr):List (Addr×Obj):=(GC g h L).filter fun p=>decide (p.1≠d)
structure Mod(K:Frag)(mg:Str→Option Value)(base:Heap):Prop where
 kin:K.In base
 glob:base.Ns mainGlobals mg
 blt:∃mb,base.Ns builtinsNs mb∧∀x:Str,x ≠ "__name__" → mb x=bootBuiltins x
 nolimit:base.NoLimit
structure Cx where
 prog:Program
 w:World
 K:Frag
 mg:Str→Option Value
 base:Heap
 A:Around
 N:List Str
 s₀:Shared
 H₀:Hp
 env:Env
 outer:List Env
 stack:List Env
 ex:List Addr
 fn:Str→Bool
 calm:Bool
 pn:List (Addr×Obj)
 xe:Value→Shared→Prop
noncomputable def frs(l:List Env):List Addr:=l.filterMap (·.frame)
noncomputable abbrev Cx.fs(X:Cx):List Addr:=frs X.outer
noncomputable def Vis(sc:Scope)(x:Str):Prop:=sc.names.lookup x=some .local∨sc.names.lookup x=some .cell∨sc.names.lookup x=some .free
noncomputable def Loc(sc:Scope)(x:Str):Prop:=sc.names.lookup x=some .local∨sc.names.lookup x=some .cell
noncomputable def Look(env:Env)(h:Heap)(m:Str→Option Value)(x:Str)(u:Value):Prop:=
 (env.kindOf x=some .local∧m x=some u)∨((env.kindOf x=some .cell∨env.kindOf x=some .free)∧∃c,env.cells.lookup x=some c∧h.IsCell c (some u))
structure Cx.Ok(X:Cx):Prop where
 mod:Mod X.K X.mg X.base
 kind:X.env.scope.kind=.function
 glob:X.env.globals=mainGlobals
 blt:X.env.builtins=builtinsNs
 above:X.s₀.heap.objs.size≤X.env.locals
 inj:∀x y c,X.env.cells.lookup x=some c→X.env.cells.lookup y=some c→x=y
 has:∀x,(X.env.kindOf x=some .cell∨X.env.kindOf x=some .free)→∃c,X.env.cells.lookup x=some c
 cab:∀x c,X.fn x=true→X.env.cells.lookup x=some c→X.s₀.heap.objs.size≤c
 hd:X.calm=true→X.A.handled=none
 frames:X.A.frames=some X.stack
 stk:X.stack=X.outer∨(X.stack=X.env::X.outer∧X.env.frame=some X.env.locals)
 exf:∀b∈X.ex,b≠X.env.locals∧∀x c,X.env.cells.lookup x=some c→c≠b
 bs:∀b o,X.base.get? b=some o→X.s₀.heap.get? b=some o∧X.H₀ b=none
 bsz:X.base.objs.size≤X.s₀.heap.objs.size
 noex:∀b o,X.base.get? b=some o→b∉X.ex
 exfs:∀b∈X.ex,b∉X.fs
 funs:X.s₀.heap.FunFrames X.base X.outer
 frf:∀b∈X.fs,X.H₀ b=none
structure Inv(X:Cx)(pins:List (Addr×Obj))(σ:List (Option V))(H:Hp)(s:Shared):Prop where
 ok:X.Ok
 os:s.os=X.s₀.os
 bare:AllBare s.gens
 base:Un X.fs X.ex X.H₀ H X.s₀.heap s.heap
 loc:∃m,s.heap.Ns X.env.locals m∧∀(i:Nat) (x:Str) (v:V),X.N[i]?=some x→σ[i]?=some (some v)→Vis X.env.scope x→∃u,RelV v u∧Look X.env s.heap m x u
 cell:∀x c,X.env.cells.lookup x=some c→∃v,s.heap.IsCell c v
 free:H X.env.locals=none
 freeC:∀x c,X.env.cells.lookup x=some c→H c=none
 pin:∀p∈X.pn++pins,s.heap.get? p.1=some p.2∧H p.1=none∧p.1≠X.env.locals∧p.1∉X.fs∧∀v,p.2.data≠.cell v
 hok:HOk X.prog X.w H s.heap
 len:σ.length=X.N.length
section
variable{X:Cx}{pins:List (Addr×Obj)}{σ:List (Option V)}{H H':Hp}{s:Shared}{h':Heap}
theorem Cx.Ok.nofr(ok:X.Ok){b:Addr}{o:Obj}(e:X.base.get? b=some o):b∉X.fs:=fun hb=>by
 have:=(ok.funs.mem hb).1
 rw[e] at this;cases this
theorem Inv.bs(I:Inv X pins σ H s):∀b o,X.base.get? b=some o→s.heap.get? b=some o∧H b=none:=fun b o e=>
 ⟨I.base.keep b o (I.ok.bs b o e).1 (I.ok.bs b o e).2 (I.ok.nofr e) (I.ok.noex b o e),I.base.free b o (I.ok.bs b o e).1 (I.ok.bs b o e).2 (I.ok.noex b o e)⟩
theorem Inv.bk(I:Inv X pins σ H s):∀b o,X.base.get? b=some o→s.heap.get? b=some o:=fun b o e=>(I.bs b o e).1
theorem Inv.mod(I:Inv X pins σ H s):Mod X.K X.mg X.base:=I.ok.mod
theorem Inv.kIn(I:Inv X pins σ H s):X.K.In s.heap:=I.ok.mod.kin.keeps I.bk
theorem Inv.lt(I:Inv X pins σ H s):X.env.locals<s.heap.objs.size:=let ⟨_,hn,_⟩:=I.loc;hn.lt
theorem Inv.sz(I:Inv X pins σ H s):X.s₀.heap.objs.size≤s.heap.objs.size:=le_trans I.ok.above (le_of_lt I.lt)
theorem Inv.nofs(I:Inv X pins σ H s){a:Addr}(h:s.heap.objs.size≤a):a∉X.fs:=fun hb=>by
 obtain⟨_,o,ho,_⟩:=I.ok.funs.mem hb
 exact absurd (lt_of_lt_of_le (Heap.lt_size ho) (le_trans I.sz h)) (lt_irrefl _)
theorem Inv.cne(I:Inv X pins σ H s):∀x c,X.env.cells.lookup x=some c→c≠X.env.locals:=fun x c e z=>by
 obtain⟨v,o,ho,hd⟩:=I.cell x c e
 obtain⟨m,⟨o',es,ep,ho',hd',_⟩,_⟩:=I.loc
 rw[z,ho'] at ho;cases ho;rw[hd'] at hd;cases hd
theorem Inv.funs(I:Inv X pins σ H s):s.heap.FunFrames X.base X.outer:=by
 have all:∀(l:List Env),(∀b∈frs l,b∈X.fs)→X.s₀.heap.FunFrames X.base l→s.heap.FunFrames X.base l:=by
  intro l
  induction l with
  |nil=>intro _ _;trivial
  |cons env r ih=>
   intro hs hl
   obtain⟨hk,⟨L,o,hf,hn,ho,hd⟩,hr⟩:=hl
   have hL:L∈X.fs:=hs L (by unfold frs;rw[filterMap_cons,hf];exact mem_cons_self)
   obtain⟨sl,e⟩:=I.base.slot L o ho (I.ok.frf L hL) hL fun z=>I.ok.exfs L z hL
   exact⟨hk,⟨L,_,hf,hn,e,hd⟩,ih (fun b hb=>hs b (by unfold frs;rw[filterMap_cons,hf];exact mem_cons_of_mem _ hb)) hr⟩
 exact all X.outer (fun _ hb=>hb) I.ok.funs
theorem Inv.stack(I:Inv X pins σ H s):s.heap.FunFrames X.base X.stack:=by
 rcases I.ok.stk with e|⟨e,hf⟩
 ·rw[e];exact I.funs
 ·rw[e]
  obtain⟨m,hn,_⟩:=I.loc
  refine .cons (by rw[I.ok.kind];decide) hf hn ?_ I.funs
  exact Heap.get?_none_of_le (le_trans I.ok.bsz I.ok.above)
theorem Inv.stkSub(I:Inv X pins σ H s):∀b∈frs X.stack,b∈X.env.locals::X.fs:=fun b hb=>by
 rcases I.ok.stk with e|⟨e,hf⟩
 ·rw[e] at hb;exact mem_cons_of_mem _ hb
 ·rw[e] at hb
  unfold frs at hb
  rw[filterMap_cons,hf] at hb
  exact hb
theorem Inv.stkFree(I:Inv X pins σ H s):∀b∈frs X.stack,H b=none:=fun b hb=>by
 rcases mem_cons.mp (I.stkSub b hb) with e|hb
 ·rw[e];exact I.free
 ·obtain⟨_,o,ho,_⟩:=I.ok.funs.mem hb
  exact I.base.free b o ho (I.ok.frf b hb) fun z=>I.ok.exfs b z hb
theorem Inv.step{g':Array GenState}{t':Nat}{d':Drawn}{ch:List Addr}(I:Inv X pins σ H s)
  (hch:∀b∈ch,(b∈X.ex∨X.s₀.heap.objs.size≤b)∧b≠X.env.locals∧(∀x c,X.env.cells.lookup x=some c→c≠b)∧∀p∈X.pn++pins,p.1≠b)
  (keep:∀b o,b≠X.env.locals→b∉X.fs→b∉ch→s.heap.get? b=some o→H b=none→h'.get? b=some o)
  (slot:∀b o,b≠X.env.locals→b∈X.fs→b∉ch→s.heap.get? b=some o→H b=none→∃sl,h'.get? b=some { o with slots:=sl }) (free:∀b o,b∉ch→s.heap.get? b=some o→H b=none→H' b=none)
  (there:∀b o,b∉ch→s.heap.get? b=some o→∃o',h'.get? b=some o')
  (tups:∀b xs,H b=some (.tup xs)→H' b=some (.tup xs)) (frzs:∀b o u,H b=some (.frz o u)→H' b=some (.frz o u)) (tbls:∀b ps,H b=some (.tbl ps)→∃more,H' b=some (.tbl (ps++more)))
  (ns:∀m,s.heap.Ns X.env.locals m→h'.Ns X.env.locals m) (hok:HOk X.prog X.w H' h') (hg:AllBare g') :
  Inv X pins σ H' { s with heap:=h',gens:=g',drawn:=d',toks:=t' }:=by
 have neL:∀b o,X.s₀.heap.get? b=some o→b≠X.env.locals:=fun b o e=>ne_of_lt (lt_of_lt_of_le (Heap.lt_size e) I.ok.above)
 have neC:∀b o,X.s₀.heap.get? b=some o→b∉X.ex→b∉ch:=fun b o e hx hb=>by
  rcases (hch b hb).1 with z|z
  ·exact hx z
  ·exact absurd (lt_of_lt_of_le (Heap.lt_size e) z) (lt_irrefl _)
 have cellK:∀x c,X.env.cells.lookup x=some c→∀v,s.heap.IsCell c v→h'.IsCell c v:=fun x c e v z_=>by
  obtain⟨o,ho,hd⟩:=z_
  have nch:c∉ch:=fun z=>(hch c z).2.2.1 x c e rfl
  by_cases hc:c∈X.fs
  ·obtain⟨sl,q⟩:=slot c o (I.cne x c e) hc nch ho (I.freeC x c e)
   exact⟨_,q,hd⟩
  ·exact⟨o,keep c o (I.cne x c e) hc nch ho (I.freeC x c e),hd⟩
 refine⟨I.ok,I.os,hg,⟨fun b o e n hb hx=>?_,fun b o e n hb hx=>?_,fun b o e n hx=>?_,fun b o e hx=>?_,fun b xs e=>tups b xs (I.base.tups b xs e),fun b o xs e=>frzs b o xs (I.base.frzs b o xs e),fun b ps e=>?_⟩,?_,fun x c e=>?_,?_,fun x c e=>?_,fun p hp=>?_,hok,I.len⟩
 ·exact keep b o (neL b o e) hb (neC b o e hx) (I.base.keep b o e n hb hx) (I.base.free b o e n hx)
 ·obtain⟨sl,e1⟩:=I.base.slot b o e n hb hx
  obtain⟨sl',e2⟩:=slot b _ (neL b o e) hb (neC b o e hx) e1 (I.base.free b o e n hx)
  exact⟨sl',e2⟩
 ·obtain⟨o',e1⟩:=I.base.there b o e hx
  exact free b o' (neC b o e hx) e1 (I.base.free b o e n hx)
 ·obtain⟨o',e1⟩:=I.base.there b o e hx
  exact there b o' (neC b o e hx) e1
 ·obtain⟨m1,e1⟩:=I.base.tbls b ps e
  obtain⟨m2,e2⟩:=tbls b _ e1
  exact⟨m1++m2,by rw[e2,Array.append_assoc]⟩
 ·obtain⟨m,hn,hl⟩:=I.loc
  refine⟨m,ns m hn,fun i x v e1 e2 e3=>?_⟩
  obtain⟨u,r,l⟩:=hl i x v e1 e2 e3
  refine⟨u,r,?_⟩
  rcases l with l|⟨k,c,e,z⟩
  ·exact .inl l
  ·exact .inr ⟨k,c,e,cellK x c e _ z⟩
 ·obtain⟨v,z⟩:=I.cell x c e
  exact⟨v,cellK x c e v z⟩
 ·obtain⟨m,⟨o,_,_,ho,_⟩,_⟩:=I.loc
  exact free _ o (fun z=>(hch _ z).2.1 rfl) ho I.free
 ·obtain⟨v,o,ho,hd⟩:=I.cell x c e
  exact free c o (fun z=>(hch c z).2.2.1 x c e rfl) ho (I.freeC x c e)
 ·obtain⟨e,n,ne,nf,d⟩:=I.pin p hp
  have nch:p.1∉ch:=fun z=>(hch p.1 z).2.2.2 p hp rfl
  exact⟨keep p.1 p.2 ne nf nch e n,free p.1 p.2 nch e n,ne,nf,d⟩
theorem Inv.un{t':Nat}(I:Inv X pins σ H s)(u:Un X.fs [] H H' s.heap h')(hok:HOk X.prog X.w H' h'):Inv X pins σ H' { s with heap:=h',toks:=t' }:=by
 obtain⟨m,⟨o,es,ep,ho,r⟩,_⟩:=id I.loc
 obtain⟨sl,hL⟩:=u.any ho I.free (by simp)
 exact I.step (g':=s.gens) (d':=s.drawn) (ch:=[]) (fun _ z=>nomatch z) (fun b o _ hb _ e n=>u.keep b o e n hb (by simp)) (fun b o _ hb _ e n=>u.slot b o e n hb (by simp)) (fun b o _ e n=>u.free b o e n (by simp)) (fun b o _ e=>u.there b o e (by simp)) u.tups u.frzs u.tbls (fun m' hm=>by
  obtain⟨o',es',ep',ho',r'⟩:=hm
  rw[ho] at ho';cases ho'
  exact⟨_,es',ep',hL,r'⟩) hok I.bare
theorem Inv.call{g':Array GenState}{t':Nat}{d':Drawn}{ch:List Addr}(I:Inv X pins σ H s)(u:Un (frs X.stack) ch H H' s.heap h')(hok:HOk X.prog X.w H' h')(hg:AllBare g')
  (hch:∀b∈ch,(b∈X.ex∨X.s₀.heap.objs.size≤b)∧b≠X.env.locals∧(∀x c,X.env.cells.lookup x=some c→c≠b)∧∀p∈X.pn++pins,p.1≠b) :
  Inv X pins σ H' { s with heap:=h',gens:=g',drawn:=d',toks:=t' }:=by
 obtain⟨m,⟨o,es,ep,ho,r⟩,_⟩:=id I.loc
 obtain⟨sl,hL⟩:=u.any ho I.free fun z=>(hch _ z).2.1 rfl
 exact I.step (ch:=ch) hch (fun b o hL hb hc e n=>u.keep b o e n (fun z=>(mem_cons.mp (I.stkSub b z)).elim hL hb) hc) (fun b o _ _ hc e n=>u.any e n hc) (fun b o hc e n=>u.free b o e n hc) (fun b o hc e=>u.there b o e hc) u.tups u.frzs u.tbls (fun m' hm=>by
  obtain⟨o',es',ep',ho',r'⟩:=hm
  rw[ho] at ho';cases ho'
  exact⟨_,es',ep',hL,r'⟩) hok hg
theorem Inv.turned{t':Nat}{it:Addr}(I:Inv X pins σ H s)(k:∀b o,b≠it→s.heap.get? b=some o→h'.get? b=some o)(hn:H it=none)(hL:it≠X.env.locals)
  (h1:it∈X.ex∨X.s₀.heap.objs.size≤it) (h2:∀x c,X.env.cells.lookup x=some c→c≠it) (h3:∀p∈X.pn++pins,p.1≠it):Inv X pins σ H { s with heap:=h',toks:=t' }:=by
 have nit:∀b u,H b=some u→b≠it:=fun b u e z=>by rw[z,hn] at e;cases e
 refine I.step (g':=s.gens) (d':=s.drawn) (ch:=[it]) (fun b hb=>?_) (fun b o _ _ hc e _=>k b o (fun z=>hc (by simp[z])) e) (fun b o _ _ hc e _=>⟨o.slots,k b o (fun z=>hc (by simp[z])) e⟩) (fun _ _ _ _ n=>n)
  (fun b o hc e=>⟨o,k b o (fun z=>hc (by simp[z])) e⟩) (fun _ _ e=>e) (fun _ _ _ e=>e) (fun b ps e=>⟨#[],by rw[e];simp⟩) (fun m hm=>?_) (fun b u e=>?_) I.bare
 ·have e:b=it:=by simpa using hb
  subst e
  exact⟨h1,hL,h2,h3⟩
 ·obtain⟨o,es,ep,ho,r⟩:=hm
  exact⟨o,es,ep,k _ o (Ne.symm hL) ho,r⟩
 ·refine(I.hok b u e).stay (fun c v hc q=>k c v ?_ q) (fun _ q=>q) fun _ _ q=>q
  rcases hc with z|z
  ·rw[z];exact nit b u e
  ·exact nit c _ z
theorem Inv.tok(I:Inv X pins σ H s)(t:Nat):Inv X pins σ H { s with toks:=t }:=I.un (h':=s.heap) (t':=t) Un.refl I.hok
theorem Inv.kept{t':Nat}(I:Inv X pins σ H s)(k:∀b u,s.heap.get? b=some u→h'.get? b=some u):Inv X pins σ H { s with heap:=h',toks:=t' }:=I.un (Un.kept k) (I.hok.kept k)
theorem Inv.laid{a:Addr}{o:HO}{t':Nat}(I:Inv X pins σ H s)(k:∀b u,s.heap.get? b=some u→h'.get? b=some u)(hp:s.heap.objs.size≤a)(new:ObjOk X.prog X.w (upd H a o) h' a o) :
  Inv X pins σ (upd H a o) { s with heap:=h',toks:=t' }:=I.un (Un.laid k hp (I.hok.fresh hp)) (I.hok.laid k hp new)
theorem Inv.write{x e:Addr}{o:HO}{t':Nat}(I:Inv X pins σ H s)(mu:Mut (H x))(he:e=x∨H e=some (.own x))(k:∀b u,b≠e→s.heap.get? b=some u→h'.get? b=some u)(heo:∃u,h'.get? e=some u)
  (new:ObjOk X.prog X.w (upd H x o) h' x o):Inv X pins σ (upd H x o) { s with heap:=h',toks:=t' }:=I.un (Un.write mu he k heo) (I.hok.write mu he k heo new)
theorem Inv.pins_of{pins':List (Addr×Obj)}(I:Inv X pins σ H s)(h:∀p∈pins',s.heap.get? p.1=some p.2∧H p.1=none∧p.1≠X.env.locals∧p.1∉X.fs∧∀v,p.2.data≠.cell v):Inv X pins' σ H s:=
 ⟨I.ok,I.os,I.bare,I.base,I.loc,I.cell,I.free,I.freeC,fun p hp=>(mem_append.mp hp).elim (fun z=>I.pin p (List.mem_append_left _ z)) (h p),I.hok,I.len⟩
theorem YE{N:List Str}(hN:N.Nodup){i j:Nat}{x:Str}(a:N[i]?=some x)(b:N[j]?=some x):i=j:=by
 obtain⟨h1,e1⟩:=List.getElem?_eq_some_iff.mp a
 obtain⟨h2,e2⟩:=List.getElem?_eq_some_iff.mp b
 exact(List.getElem_inj hN).mp (e1.trans e2.symm)
theorem j2{M:Model}{A:Around}{E:Value→Shared→Prop}{i:Nat}{x:Str}{v:V}{u:Value}{Q:Unit→Shared→Prop}(I:Inv X pins σ H s)(hN:X.N.Nodup)(hi:X.N[i]?=some x)(hx:Loc X.env.scope x)(r:RelV v u)
  (h:∀s',Inv X pins (σ.set i (some v)) H s'→(∃a,Heap.SameBut a s.heap s'.heap∧(a=X.env.locals∨X.env.cells.lookup x=some a))→Q () s') (hf:X.fn x=true∨X.env.scope.names.lookup x=some .local:=by first|exact .inl rfl|exact .inr rfl|assumption):wpAny M A (storeName X.env x u) Q E s:=by
 obtain⟨m,hn,hl⟩:=id I.loc
 have hcls:(X.env.scope.kind == .class||(X.env.scope.kind == .module&&X.env.locals != X.env.globals))=false:=by rw[I.ok.kind];rfl
 have hiσ:i<σ.length:=by rw[I.len];exact(List.getElem?_eq_some_iff.mp hi).1
 have cne:=I.cne
 have tracked:∀{a:Addr} {h':Heap},(∃o,s.heap.get? a=some o∧H a=none)→Heap.SameBut a s.heap h'→HOk X.prog X.w H h':=fun {a h'} ha hs b ob e=>by
  obtain⟨_,_,hfree⟩:=ha
  refine(I.hok b ob e).stay (fun c w' hc q=>(hs.2 c ?_).trans q) (fun _ q=>q) fun _ _ q=>q
  rintro rfl
  rcases hc with rfl|hc
  ·rw[hfree] at e;cases e
  ·rw[hfree] at hc;cases hc
 rcases hx with hk|hk
 ·refine wpAny_storeName_local hk hn (fun h' hn' hs=>?_) hcls
  obtain⟨oL,_,_,hoL,_⟩:=id hn
  refine h _ ⟨I.ok,I.os,I.bare,⟨fun b o e n hb hx=>?_,fun b o e n hb hx=>?_,I.base.free,fun b o e hx=>?_,I.base.tups,I.base.frzs,I.base.tbls⟩,⟨_,hn',fun j y v' e1 e2 e3=>?_⟩,fun y c e=>?_,I.free,I.freeC,fun p hp=>?_,tracked ⟨oL,hoL,I.free⟩ hs,by simpa using I.len⟩ ⟨_,hs,.inl rfl⟩
  ·exact(hs.2 b (ne_of_lt (lt_of_lt_of_le (Heap.lt_size e) I.ok.above))).trans (I.base.keep b o e n hb hx)
  ·obtain⟨sl,e1⟩:=I.base.slot b o e n hb hx
   exact⟨sl,(hs.2 b (ne_of_lt (lt_of_lt_of_le (Heap.lt_size e) I.ok.above))).trans e1⟩
  ·obtain⟨o',e1⟩:=I.base.there b o e hx
   exact⟨o',(hs.2 b (ne_of_lt (lt_of_lt_of_le (Heap.lt_size e) I.ok.above))).trans e1⟩
  ·by_cases hj:j=i
   ·subst hj
    rw[hi] at e1;cases e1
    rw[getElem?_set_self hiσ] at e2
    cases e2
    exact⟨u,r,.inl ⟨hk,by simp⟩⟩
   ·rw[getElem?_set_ne (Ne.symm hj)] at e2
    obtain⟨u',r',q⟩:=hl j y v' e1 e2 e3
    refine⟨u',r',?_⟩
    rcases q with ⟨k,e⟩|⟨k,c,e,z⟩
    ·refine .inl ⟨k,?_⟩
     have:y≠x:=fun e=>hj (YE hN e1 (e ▸ hi))
     simp[this,e]
    ·exact .inr ⟨k,c,e,z.sameBut hs (cne y c e)⟩
  ·obtain⟨w',z⟩:=I.cell y c e
   exact⟨w',z.sameBut hs (cne y c e)⟩
  ·obtain⟨e,n,ne,nf,d⟩:=I.pin p hp
   exact⟨(hs.2 p.1 ne).trans e,n,ne,nf,d⟩
 ·have hfn:X.fn x=true:=by
   rcases hf with z|z
   ·exact z
   ·rw[z] at hk;cases hk
  obtain⟨c,hc⟩:=I.ok.has x (.inl hk)
  obtain⟨w',z⟩:=I.cell x c hc
  refine wpAny_storeName_cell I.ok.kind hk hc z (fun h' hc' hs=>?_)
  obtain⟨oc,hoc,hocd⟩:=id z
  refine h { s with heap:=h' } ⟨I.ok,I.os,I.bare,⟨fun b o e n hb hx=>?_,fun b o e n hb hx=>?_,I.base.free,fun b o e hx=>?_,I.base.tups,I.base.frzs,I.base.tbls⟩,⟨m,hn.sameBut hs (Ne.symm (cne x c hc)),fun j y v' e1 e2 e3=>?_⟩,fun y c' e=>?_,I.free,I.freeC,fun p hp=>?_,tracked ⟨oc,hoc,I.freeC x c hc⟩ hs,by simpa using I.len⟩ ⟨c,hs,.inr hc⟩
  ·exact(hs.2 b (ne_of_lt (lt_of_lt_of_le (Heap.lt_size e) (I.ok.cab x c hfn hc)))).trans (I.base.keep b o e n hb hx)
  ·obtain⟨sl,e1⟩:=I.base.slot b o e n hb hx
   exact⟨sl,(hs.2 b (ne_of_lt (lt_of_lt_of_le (Heap.lt_size e) (I.ok.cab x c hfn hc)))).trans e1⟩
  ·obtain⟨o',e1⟩:=I.base.there b o e hx
   exact⟨o',(hs.2 b (ne_of_lt (lt_of_lt_of_le (Heap.lt_size e) (I.ok.cab x c hfn hc)))).trans e1⟩
  ·by_cases hj:j=i
   ·subst hj
    rw[hi] at e1;cases e1
    rw[getElem?_set_self hiσ] at e2
    cases e2
    exact⟨u,r,.inr ⟨.inl hk,c,hc,hc'⟩⟩
   ·rw[getElem?_set_ne (Ne.symm hj)] at e2
    obtain⟨u',r',q⟩:=hl j y v' e1 e2 e3
    refine⟨u',r',?_⟩
    rcases q with q|⟨k,c',e,z'⟩
    ·exact .inl q
    ·refine .inr ⟨k,c',e,z'.sameBut hs ?_⟩
     rintro rfl
     exact hj (YE hN e1 (I.ok.inj _ _ _ e hc ▸ hi))
  ·by_cases hcc:c'=c
   ·subst hcc;exact⟨_,hc'⟩
   ·obtain⟨w2,z2⟩:=I.cell y c' e
    exact⟨w2,z2.sameBut hs hcc⟩
  ·obtain⟨e,n,ne,nf,d⟩:=I.pin p hp
   refine⟨(hs.2 p.1 ?_).trans e,n,ne,nf,d⟩
   intro q
   rw[q,hoc] at e
   have q':oc=p.2:=Option.some.inj e
   exact d w' (by rw[← q'];exact hocd)
theorem Yh{M:Model}{A:Around}{E:Value→Shared→Prop}{i:Nat}{x:Str}{v:V}{u:Value}{Q:Unit→Shared→Prop}(I:Inv X pins σ H s)(hN:X.N.Nodup)(hi:X.N[i]?=some x)(hx:Loc X.env.scope x)(r:RelV v u)
  (h:∀s',Inv X pins (σ.set i (some v)) H s'→Q () s') (hf:X.fn x=true∨X.env.scope.names.lookup x=some .local:=by first|exact .inl rfl|exact .inr rfl|assumption):wpAny M A (storeName X.env x u) Q E s:=
 j2 I hN hi hx r (fun s' I' _=>h s' I') hf
theorem Inv.call'{s':Shared}{ch:List Addr}(I:Inv X pins σ H s)(ho:s'.os=s.os)(u:Un (frs X.stack) ch H H' s.heap s'.heap)(hok:HOk X.prog X.w H' s'.heap)(hg:AllBare s'.gens)
  (hch:∀b∈ch,(b∈X.ex∨X.s₀.heap.objs.size≤b)∧b≠X.env.locals∧(∀x c,X.env.cells.lookup x=some c→c≠b)∧∀p∈X.pn++pins,p.1≠b):Inv X pins σ H' s':=by
 obtain⟨h',g',d',t',o'⟩:=s'
 have e:o'=s.os:=ho
 subst e
 exact I.call (g':=g') (t':=t') (d':=d') u hok hg hch
end
noncomputable abbrev XK:=Value→Option Addr→Hp→Prop
noncomputable abbrev St:=List (Option V)
noncomputable abbrev VK:=V→Hp→Prop
noncomputable abbrev TE:=St→Hp→VK→Prop
noncomputable abbrev TT:=St→Hp→(Bool→Hp→Prop)→Prop
noncomputable abbrev TA:=St→Hp→(List V→Hp→Prop)→Prop
structure jW where
 nx:St→Hp→Prop
 rt:VK
 bk:St→Hp→Prop:=fun _ _=>False
 ct:St→Hp→Prop:=fun _ _=>False
noncomputable abbrev TS:=jW→St→Hp→Prop
noncomputable def EP(X:Cx)(pins:List (Addr×Obj))(σ:St)(Q:VK)(u:Value)(s':Shared):Prop:=∃v H',Inv X pins σ H' s'∧RelV v u∧Q v H'
noncomputable def TP(X:Cx)(pins:List (Addr×Obj))(σ:St)(Q:Bool→Hp→Prop)(b:Bool)(s':Shared):Prop:=∃H',Inv X pins σ H' s'∧Q b H'
noncomputable def AP(X:Cx)(pins:List (Addr×Obj))(σ:St)(Q:List V→Hp→Prop)(us:List Value)(s':Shared):Prop:=∃vs H',Inv X pins σ H' s'∧Vals vs us∧Q vs H'
noncomputable def SP(X:Cx)(pins:List (Addr×Obj))(D:jW)(f:Flow)(s':Shared):Prop:=
 match f with
 |.next=>∃σ' H',Inv X pins σ' H' s'∧D.nx σ' H'
 |.brk=>∃σ' H',Inv X pins σ' H' s'∧D.bk σ' H'
 |.cont=>∃σ' H',Inv X pins σ' H' s'∧D.ct σ' H'
 |.ret u=>∃v σ' H',Inv X pins σ' H' s'∧RelV v u∧D.rt v H'
noncomputable def PE(X:Cx)(e:Expr)(t:TE):Prop:=
 ∀(pins:List (Addr×Obj)) (s:Shared) (σ:St) (H:Hp) (Q:VK),Inv X pins σ H s→t σ H Q→wpAny (model X.prog X.w) X.A (eval e X.env) (EP X pins σ Q) X.xe s
noncomputable def PT(X:Cx)(e:Expr)(t:TT):Prop:=
 ∀(pins:List (Addr×Obj)) (s:Shared) (σ:St) (H:Hp) (Q:Bool→Hp→Prop),Inv X pins σ H s→t σ H Q→wpAny (model X.prog X.w) X.A (isTrue e X.env (eval e X.env)) (TP X pins σ Q) X.xe s
noncomputable def PW(X:Cx)(e:Expr)(t:TT):Prop:=
 ∀(whole:Sem Value) (pins:List (Addr×Obj)) (s:Shared) (σ:St) (H:Hp) (Q:Bool→Hp→Prop),Inv X pins σ H s→t σ H Q→wpAny (model X.prog X.w) X.A (isTrue e X.env whole) (TP X pins σ Q) X.xe s
theorem PW.pt{X:Cx}{e:Expr}{t:TT}(h:PW X e t):PT X e t:=h _
noncomputable def PA(X:Cx)(es:List Expr)(t:TA):Prop:=
 ∀(pos:Pos) (pins:List (Addr×Obj)) (s:Shared) (σ:St) (H:Hp) (Q:List V→Hp→Prop),Inv X pins σ H s→t σ H Q→wpAny (model X.prog X.w) X.A (spliced (backTo pos (starEach es X.env))) (AP X pins σ Q) X.xe s
noncomputable def PS(X:Cx)(st:Stmt)(t:TS):Prop:=
 ∀(pins:List (Addr×Obj)) (s:Shared) (σ:St) (H:Hp) (D:jW),Inv X pins σ H s→t D σ H→wpAny (model X.prog X.w) X.A (exec st X.env) (SP X pins D) X.xe s
noncomputable def PSs(X:Cx)(st:List Stmt)(t:TS):Prop:=
 ∀(pins:List (Addr×Obj)) (s:Shared) (σ:St) (H:Hp) (D:jW),Inv X pins σ H s→t D σ H→wpAny (model X.prog X.w) X.A (execs st X.env) (SP X pins D) X.xe s
theorem thn{α:Type}{t:Sem α}{Q Q':α→Shared→Prop}{M:Model}{A:Around}{E:Value→Shared→Prop}{s:Shared}(h:wpAny M A t Q E s)(hQ:∀a s,Q a s→Q' a s):wpAny M A t Q' E s:=wpAny_mono h hQ fun _ _ x=>x
section
variable{X:Cx}
noncomputable def xB(i:Nat):TE:=fun σ H Q=>∃v,σ[i]?=some (some v)∧Q v H
noncomputable def tC(v:V):TE:=fun _ H Q=>Q v H
theorem Mo{i:Nat}{x:Str}{pos:Pos}(hN:X.N[i]?=some x)(hv:Vis X.env.scope x)(hd:(x==("__debug__" : Str))=false:=by decide)(hcd:(x==("__classdict__" : Str))=false:=by decide):PE X (.Name x pos) (xB i):=by
 intro pins s σ H Q I h
 obtain⟨v,e,h⟩:=h
 obtain⟨m,hn,hl⟩:=I.loc
 obtain⟨u,r,l⟩:=hl i x v hN e hv
 have fin:EP X pins σ Q u s:=⟨v,H,I,r,h⟩
 rcases l with ⟨hk,hm⟩|⟨hk,c,hc,hcell⟩
 ·exact wpAny_Name (wpAny_loadName_local I.ok.kind hk hn hm fin) hd
 ·rcases hk with hk|hk
  ·exact wpAny_Name (wpAny_loadName_cell I.ok.kind hk hc hcell fin) hd
  ·exact wpAny_Name (wpAny_loadName_free I.ok.kind hk hc hcell fin hcd) hd
theorem Xq{i j pos}:PE X (.Constant (.int i) j pos) (tC (.int i)):=fun _ _ _ H _ I h=>wpAny_Constant_int ⟨.int i,H,I.tok _,⟨_,rfl⟩,h⟩
theorem pe_bl{b j pos}:PE X (.Constant (.bool b) j pos) (tC (.bl b)):=fun _ _ _ H _ I h=>Constant_bool ⟨.bl b,H,I,rfl,h⟩
theorem Mq{x j pos}:PE X (.Constant (.str x) j pos) (tC (.str x)):=fun _ _ _ H _ I h=>Calls.Constant_str ⟨.str x,H,I.tok _,⟨_,rfl⟩,h⟩
noncomputable def Gl(X:Cx)(x:Str):Prop:=X.env.kindOf x=some .globalImplicit
theorem ZZ{E:Value→Shared→Prop}{pins:List (Addr×Obj)}{s:Shared}{σ:St}{H:Hp}{x:Str}{u:Value}{pos:Pos}{Q:Value→Shared→Prop}(I:Inv X pins σ H s)(hg:Gl X x)(hm:X.mg x=some u)(h:Q u s)
  (hd:(x==("__debug__" : Str))=false:=by decide):wpAny (model X.prog X.w) X.A (eval (.Name x pos) X.env) Q E s:=
 Calls.Name_function_global I.ok.kind hg (Calls.loadGlobal_global (by rw[I.ok.glob];exact I.mod.glob.keeps I.bk) hm h) hd
theorem uk{E:Value→Shared→Prop}{pins:List (Addr×Obj)}{s:Shared}{σ:St}{H:Hp}{x:Str}{u:Value}{pos:Pos}{Q:Value→Shared→Prop}(I:Inv X pins σ H s)(hg:Gl X x)(hm:X.mg x=none)(hv:bootBuiltins x=some u)(h:Q u s)
  (hn:x ≠ "__name__" := by decide) (hd:(x==("__debug__" : Str))=false:=by decide):wpAny (model X.prog X.w) X.A (eval (.Name x pos) X.env) Q E s:=by
 obtain⟨mb,h1,h2⟩:=I.mod.blt
 exact Calls.Name_function_global I.ok.kind hg (Calls.loadGlobal_builtin (by rw[I.ok.glob];exact I.mod.glob.keeps I.bk) hm (by rw[I.ok.blt];exact h1.keeps I.bk) ((h2 x hn).trans hv) h) hd
theorem Qk{x:Str}{v:V}{u:Value}{pos:Pos}(hg:Gl X x)(hm:X.mg x=some u)(r:RelV v u)(hd:(x==("__debug__" : Str))=false:=by decide):PE X (.Name x pos) (tC v):=
 fun _ _ _ H _ I h=>ZZ I hg hm ⟨v,H,I,r,h⟩ hd
variable{a b:Expr}{ta tb:TE}{pos:Pos}
noncomputable def tB(t:TE):TT:=fun σ H Q=>t σ H fun x H1=>∃c,x=.bl c∧Q c H1
variable{tA tB':TT}{rest:List Expr}
noncomputable def tAnd(t u:TT):TT:=fun σ H Q=>t σ H fun c H1=>if c=true then u σ H1 Q else Q false H1
noncomputable def tNot(t:TT):TT:=fun σ H Q=>t σ H fun c H1=>Q (!c) H1
theorem Wb(ha:PT X a tA):PW X (.BoolOp .And [a] pos) tA:=by
 intro wh pins s σ H Q I h
 refine isTrue_and (thn (ha pins s σ H Q I h) fun c s1 e=>?_)
 cases c with
 |true=>exact isTrue_and_nil e
 |false=>exact e
theorem Ui(ha:PT X a tA)(hb:PW X (.BoolOp .And (b::rest) pos) tB'):PW X (.BoolOp .And (a::b::rest) pos) (tAnd tA tB'):=by
 intro wh pins s σ H Q I h
 refine isTrue_and (thn (ha pins s σ H _ I h) fun c s1 z_=>?_)
 obtain⟨H1,I1,q1⟩:=z_
 cases c with
 |true=>exact hb wh pins s1 σ H1 Q I1 q1
 |false=>exact⟨H1,I1,q1⟩
theorem Mf(ha:PT X a tA):PT X (.UnaryOp .Not a pos) (tNot tA):=by
 intro pins s σ H Q I h
 exact isTrue_not (ha pins s σ H (fun c H1=>Q (!c) H1) I h)
theorem Mr{op}{t:TE}(h:PE X a t):PE X (.BoolOp op [a] pos) t:=fun pins s σ H Q I hw=>BoolOp_one (h pins s σ H Q I hw)
end
noncomputable def SqL(K:Frag)(H:Hp)(a:Addr)(xs:List V):Prop:=
 Rd H a (.lst xs) ∨
  ∃(o:Obj) (its:Array Value) (n:Nat),K.lookup a=some o∧o.cls=.type "list" ∧ o.dict=none∧o.data=.seq its n∧its.size≤sizeLine∧Vals xs its.toList
noncomputable def SqT(K:Frag)(H:Hp)(a:Addr)(xs:List V):Prop:=
 Rd H a (.tup xs) ∨
  ∃(o:Obj) (its:Array Value) (n:Nat),K.lookup a=some o∧o.cls=.type "tuple" ∧ o.data=.seq its n∧its.size≤sizeLine∧Vals xs its.toList
noncomputable def absV:Value→Option V
 |.none=>some .non
 |.bool b=>some (.bl b)
 |.int i _=>some (.int i)
 |.str x _=>some (.str x)
 |.bytes b _=>some (.byt b)
 |.float b _=>some (.flt b)
 |.ref a=>some (.ref a)
 |.type n=>some (.ty n)
 |_=>none
theorem RelV.abs{x:V}{u:Value}(r:RelV x u):absV u=some x:=by
 cases x with
 |non=>cases r;rfl
 |bl _=>cases r;rfl
 |int _=>obtain⟨t,rfl⟩:=r;rfl
 |str _=>obtain⟨t,rfl⟩:=r;rfl
 |byt _=>obtain⟨t,rfl⟩:=r;rfl
 |flt _=>obtain⟨t,rfl⟩:=r;rfl
 |ref _=>cases r;rfl
 |ty _=>cases r;rfl
theorem RelV.inj{x y:V}{u:Value}(r:RelV x u)(q:RelV y u):x=y:=Option.some.inj (r.abs.symm.trans q.abs)
theorem Vals.inj:∀{xs ys:List V} {us:List Value},Vals xs us→Vals ys us→xs=ys
 |_,_,_,.nil,.nil=>rfl
 |_,_,_,.cons r t,.cons r' t'=>by rw[r.inj r',Vals.inj t t']
section
variable{X:Cx}{pins:List (Addr×Obj)}{σ:St}{H:Hp}{s:Shared}{a:Addr}{xs ys:List V}
theorem SqL.of{K:Frag}(h:H a=some (.lst xs)):SqL K H a xs:=.inl (.inl h)
theorem SqT.of{K:Frag}(h:H a=some (.tup xs)):SqT K H a xs:=.inl (.inl h)
theorem Inv.list(I:Inv X pins σ H s)(h:SqL X.K H a xs):∃its:List Value,Vals xs its∧PlainL s.heap a its.toArray∧xs.length≤sizeLine:=by
 rcases h with h|⟨o,its,n,hk,hc,hd,hs,hz,r⟩
 ·obtain⟨z,its,n,r,e⟩:=h.ok I.hok
  exact⟨its,r,⟨_,n,e,rfl,rfl,rfl⟩,z⟩
 ·refine⟨its.toList,r,⟨o,n,I.kIn a o hk,hc,hd,by simpa using hs⟩,?_⟩
  have e:=r.length
  simp only[length_toList] at e
  lia
theorem Inv.tuple(I:Inv X pins σ H s)(h:SqT X.K H a xs):∃its:List Value,Vals xs its∧IsTup s.heap a its.toArray∧xs.length≤sizeLine:=by
 rcases h with h|⟨o,its,n,hk,hc,hs,hz,r⟩
 ·obtain⟨z,its,r,p⟩:=h.ok I.hok
  exact⟨its,r,p,z⟩
 ·refine⟨its.toList,r,⟨o,I.kIn a o hk,hc,n,by simpa using hs⟩,?_⟩
  have e:=r.length
  simp only[length_toList] at e
  lia
theorem Inv.list_inj(I:Inv X pins σ H s)(h:SqL X.K H a xs)(h':SqL X.K H a ys):xs=ys:=by
 obtain⟨its,r,⟨o,n,e,_,_,d⟩,_⟩:=I.list h
 obtain⟨its',r',⟨o',n',e',_,_,d'⟩,_⟩:=I.list h'
 rw[e] at e';cases e'
 rw[d] at d'
 injection d' with d1 _
 have:its=its':=by simpa using congrArg Array.toList d1
 subst this
 exact r.inj r'
theorem Inv.tuple_inj(I:Inv X pins σ H s)(h:SqT X.K H a xs)(h':SqT X.K H a ys):xs=ys:=by
 obtain⟨its,r,⟨o,e,_,n,d⟩,_⟩:=I.tuple h
 obtain⟨its',r',⟨o',e',_,n',d'⟩,_⟩:=I.tuple h'
 rw[e] at e';cases e'
 rw[d] at d'
 injection d' with d1 _
 have:its=its':=by simpa using congrArg Array.toList d1
 subst this
 exact r.inj r'
end
noncomputable abbrev Cx.wish(X:Cx)(E:Value→Shared→Prop):Cx:={ X with xe:=E }
noncomputable abbrev Cx.nox(X:Cx):Cx:=X.wish fun _ _=>False
theorem Cx.Ok.wish{X:Cx}(ok:X.Ok)(E:Value→Shared→Prop):(X.wish E).Ok:=
 ⟨ok.mod,ok.kind,ok.glob,ok.blt,ok.above,ok.inj,ok.has,ok.cab,ok.hd,ok.frames,ok.stk,ok.exf,ok.bs,ok.bsz,ok.noex,ok.exfs,ok.funs,ok.frf⟩
theorem Cx.Ok.unwish{X:Cx}{E:Value→Shared→Prop}(ok:(X.wish E).Ok):X.Ok:=
 ⟨ok.mod,ok.kind,ok.glob,ok.blt,ok.above,ok.inj,ok.has,ok.cab,ok.hd,ok.frames,ok.stk,ok.exf,ok.bs,ok.bsz,ok.noex,ok.exfs,ok.funs,ok.frf⟩
section
variable{X:Cx}{pins:List (Addr×Obj)}{σ:St}{H:Hp}{s:Shared}{E:Value→Shared→Prop}
theorem Inv.wish(I:Inv X pins σ H s)(E:Value→Shared→Prop):Inv (X.wish E) pins σ H s:=⟨I.ok.wish E,I.os,I.bare,I.base,I.loc,I.cell,I.free,I.freeC,I.pin,I.hok,I.len⟩
theorem Inv.unwish(I:Inv (X.wish E) pins σ H s):Inv X pins σ H s:=⟨I.ok.unwish,I.os,I.bare,I.base,I.loc,I.cell,I.free,I.freeC,I.pin,I.hok,I.len⟩
theorem SP.unwish{D:jW}{f:Flow}{s':Shared}(h:SP (X.wish E) pins D f s'):SP X pins D f s':=by
 cases f with
 |next=>obtain⟨σ',H',I,q⟩:=h;exact⟨σ',H',I.unwish,q⟩
 |brk=>obtain⟨σ',H',I,q⟩:=h;exact⟨σ',H',I.unwish,q⟩
 |cont=>obtain⟨σ',H',I,q⟩:=h;exact⟨σ',H',I.unwish,q⟩
 |ret u=>obtain⟨v,σ',H',I,r,q⟩:=h;exact⟨v,σ',H',I.unwish,r,q⟩
theorem PSs.nox{st:List Stmt}{t:TS}(h:PSs X.nox st t):PSs X st t:=fun pins s σ H D I hw=>
 wpAny_mono (h pins s σ H D (I.wish _) hw) (fun _ _ q=>q.unwish) fun _ _ z=>False.elim z
end
section
variable{X:Cx}{st:Stmt}{rest:List Stmt}{t u:TS}{e:Expr}{te:TE}{pos:Pos}
noncomputable def tNext:TS:=fun D σ H=>D.nx σ H
noncomputable def tSeq(t u:TS):TS:=fun D σ H=>t { D with nx:=u D } σ H
theorem Qc:PSs X [] tNext:=fun _ _ σ H _ I h=>wpAny_execs_nil ⟨σ,H,I,h⟩
theorem wC(h1:PS X st t)(h2:PSs X rest u):PSs X (st::rest) (tSeq t u):=by
 intro pins s σ H D I h
 refine wpAny_execs_cons (thn (h1 pins s σ H { D with nx:=u D } I h) fun f s1 q=>?_)
 cases f with
 |next=>
  obtain⟨σ',H',I',q⟩:=q
  exact h2 pins s1 σ' H' D I' q
 |ret v=>exact q
 |brk=>exact q
 |cont=>exact q
theorem wN(h1:PS X st t):PSs X [st] t:=by
 intro pins s σ H D I h
 refine wpAny_execs_cons (thn (h1 pins s σ H D I h) fun f s1 q=>?_)
 cases f with
 |next=>exact wpAny_execs_nil q
 |ret v=>exact q
 |brk=>exact q
 |cont=>exact q
theorem Inv.quiet{pins:List (Addr×Obj)}{σ:St}{H:Hp}{s:Shared}(I:Inv X pins σ H s):interactive X.env=false:=by simp[interactive,I.ok.kind]
noncomputable def tDrop(te:TE):TS:=fun D σ H=>te σ H fun _ H1=>D.nx σ H1
theorem Qd(he:PE X e te)(hs:swapsWith e none pos.line X.env=pure false:=by rfl):PS X (.Expr e pos) (tDrop te):=by
 intro pins s σ H D I h
 exact wpAny_Expr_any (thn (he pins s σ H _ I h) fun v s1 ⟨x,H1,I1,r1,q1⟩=>⟨σ,H1,I1,q1⟩) I.quiet hs
noncomputable def tRet(te:TE):TS:=fun D σ H=>te σ H D.rt
theorem u9(he:PE X e te):PS X (.Return (some e) pos) (tRet te):=by
 intro pins s σ H D I h
 exact wpAny_Return_some (thn (he pins s σ H _ I h) fun v s1 ⟨x,H1,I1,r1,q1⟩=>⟨x,σ,H1,I1,r1,q1⟩)
noncomputable def tIfS(c:TT)(t u:TS):TS:=fun D σ H=>c σ H fun b H1=>if b=true then t D σ H1 else u D σ H1
theorem GI{c:Expr}{a b:List Stmt}{tc:TT}(hc:PT X c tc)(ha:PSs X a t)(hb:PSs X b u):PS X (.If c a b pos) (tIfS tc t u):=by
 intro pins s σ H D I h
 refine wpAny_If (thn (hc pins s σ H _ I h) fun d s1 z_=>?_)
 obtain⟨H1,I1,q1⟩:=z_
 cases d with
 |true=>exact ha pins s1 σ H1 D I1 q1
 |false=>exact hb pins s1 σ H1 D I1 q1
end
noncomputable abbrev TG:=V→St→Hp→(St→Hp→Prop)→Prop
noncomputable abbrev TGs:=List V→St→Hp→(St→Hp→Prop)→Prop
noncomputable def PG(X:Cx)(target:Expr)(t:TG):Prop:=
 ∀(pins:List (Addr×Obj)) (s:Shared) (σ:St) (H:Hp) (v:V) (u:Value) (Q:St→Hp→Prop),Inv X pins σ H s→RelV v u→t v σ H Q →
  wpAny (model X.prog X.w) X.A (assign target X.env u) (fun _ s'=>∃σ' H',Inv X pins σ' H' s'∧Q σ' H') X.xe s
noncomputable def PGs(X:Cx)(ts:List Expr)(t:TGs):Prop:=
 ∀(pins:List (Addr×Obj)) (s:Shared) (σ:St) (H:Hp) (vs:List V) (us:List Value) (Q:St→Hp→Prop),Inv X pins σ H s→Vals vs us→t vs σ H Q →
  wpAny (model X.prog X.w) X.A (assignInOrder ((assignEach ts X.env).map (·.2)) us) (fun _ s'=>∃σ' H',Inv X pins σ' H' s'∧Q σ' H') X.xe s
noncomputable abbrev Tv:=V→V→V→Hp→(Hp→Prop)→Prop
noncomputable def PSet(X:Cx)(t:Tv):Prop:=
 ∀(pins:List (Addr×Obj)) (s:Shared) (σ:St) (H:Hp) (o i v:V) (ov iv u:Value) (Q:Hp→Prop),Inv X pins σ H s→RelV o ov→RelV i iv→RelV v u→t o i v H Q →
  wpAny (model X.prog X.w) X.A (setItem ov iv u) (fun _ s'=>∃H',Inv X pins σ H' s'∧Q H') X.xe s
section
variable{X:Cx}{pos:Pos}
noncomputable def YU(i:Nat):TG:=fun v σ H Q=>Q (σ.set i (some v)) H
theorem vE{i:Nat}{x:Str}(hN:X.N.Nodup)(hi:X.N[i]?=some x)(hx:Loc X.env.scope x)(hf:X.fn x=true∨X.env.scope.names.lookup x=some .local:=by first|exact .inl rfl|exact .inr rfl|assumption):PG X (.Name x pos) (YU i):=by
 intro pins s σ H v u Q I r h
 exact wpAny_assign_Name (Yh I hN hi hx r (fun s' I'=>⟨_,H,I',h⟩) hf)
noncomputable def gNil:TGs:=fun vs σ H Q=>vs=[]∧Q σ H
noncomputable def gCons(t:TG)(u:TGs):TGs:=fun vs σ H Q=>∃v r,vs=v::r∧t v σ H fun σ' H'=>u r σ' H' Q
theorem Qi:PGs X [] gNil:=by
 intro pins s σ H vs us Q I r h
 obtain⟨e,h⟩:=h
 subst e
 cases r
 exact assignInOrder_nil ⟨σ,H,I,h⟩
theorem Yv{e:Expr}{es:List Expr}{t:TG}{u:TGs}(h1:PG X e t)(h2:PGs X es u)
  (hs:(assignEach (e::es) X.env).map (·.2)=assign e X.env::(assignEach es X.env).map (·.2):=by rfl):PGs X (e::es) (gCons t u):=by
 intro pins s σ H vs us Q I r h
 obtain⟨v,vr,e1,h⟩:=h
 subst e1
 cases r with
 |cons r rr=>
  rw[hs]
  refine assignInOrder_cons (thn (h1 pins s σ H _ _ _ I r h) fun _ s1 z_=>?_)
  obtain⟨σ1,H1,I1,q1⟩:=z_
  exact h2 pins s1 σ1 H1 _ _ Q I1 rr q1
noncomputable def gTup(K:Frag)(n:Nat)(t:TGs):TG:=fun v σ H Q=>∃a xs,v=.ref a∧SqT K H a xs∧xs.length=n∧t xs σ H Q
theorem Mm{es:List Expr}{k:Nat}{t:TGs}{n:Nat}(hc:X.calm=true)(h:PGs X es t)
  (hn:(assignEach es X.env).length=n:=by rfl) (hst:(assignEach es X.env).findIdx? (·.1)=none:=by rfl):PG X (.Tuple es k pos) (gTup X.K n t):=by
 intro pins s σ H v u Q I r hw
 obtain⟨a,xs,e1,hq,hl,hw⟩:=hw
 subst e1
 cases r
 obtain⟨its,rv,ht,hz⟩:=I.tuple hq
 refine assign_Tuple_tuple (I.ok.hd hc) ht (by simp[hn,← hl,rv.length]) hst fun h' hx=>?_
 have I1:Inv X pins σ H { s with heap:=h' }:=I.kept (t':=s.toks) fun b o e=>hx b o (ne_of_lt (Heap.lt_size e)) e
 exact h pins _ σ H xs _ Q I1 (by simpa using rv) hw
noncomputable def gSub(to ti:TE)(t:Tv):TG:=fun v σ H Q=>to σ H fun o H1=>ti σ H1 fun i H2=>t o i v H2 fun H3=>Q σ H3
theorem Mn{o i:Expr}{to ti:TE}{t:Tv}(ho:PE X o to)(hi:PE X i ti)(hs:PSet X t)
  (ha:∀v,assign (.Subscript o i pos) X.env v=(do
   let ov ← holding [v] (eval o X.env)
   let iv ← holding [v,ov] (eval i X.env)
   standAt pos
   holding [v,ov,iv] (setItem ov iv v)
   release [v,ov,iv] []):=by intro _;rfl):PG X (.Subscript o i pos) (gSub to ti t):=by
 intro pins s σ H v u Q I r h
 rw[ha]
 refine wpAny_bind (wpAny_holding (thn (ho pins s σ H _ I h) fun ov s1 z_=>?_))
 obtain⟨x,H1,I1,r1,q1⟩:=z_
 refine wpAny_bind (wpAny_holding (thn (hi pins s1 σ H1 _ I1 q1) fun iv s2 z_=>?_))
 obtain⟨y,H2,I2,r2,q2⟩:=z_
 refine wpAny_bind (wpAny_standAt (wpAny_bind (wpAny_holding (thn (hs pins s2 σ H2 x y v ov iv u _ I2 r1 r2 r q2) fun _ s3 z_=>?_))))
 obtain⟨H3,I3,q3⟩:=z_
 exact wpAny_release ⟨σ,H3,I3,q3⟩
noncomputable def G9(te:TE)(g:TG):TS:=fun D σ H=>te σ H fun x H1=>g x σ H1 D.nx
theorem Mh{tg e:Expr}{te:TE}{g:TG}(he:PE X e te)(hg:PG X tg g)(hs:swapsWithSole [tg] e pos.line X.env=pure false:=by rfl)(hw:swappedStores [tg] e X.env=pure none:=by rfl)
  (h1:(assignEach [tg] X.env).map (·.2)=[assign tg X.env]:=by rfl):PS X (.Assign [tg] e pos) (G9 te g):=by
 intro pins s σ H D I h
 refine wpAny_Assign_stores (thn (he pins s σ H _ I h) fun v s1 z_=>?_) hs hw
 obtain⟨x,H1,I1,r1,q1⟩:=z_
 rw[h1]
 exact thn (hg pins s1 σ H1 x v _ I1 r1 q1) fun _ s2 q=>q
theorem ZK{i:Nat}{x:Str}{e:Expr}{te:TE}{pos':Pos}(hN:X.N.Nodup)(hi:X.N[i]?=some x)(hx:Loc X.env.scope x)(he:PE X e te)(hs:swapsWith e (some (.Name x pos')) pos.line X.env=pure false:=by rfl)(hf:X.fn x=true∨X.env.scope.names.lookup x=some .local:=by first|exact .inl rfl|exact .inr rfl|assumption) :
  PS X (.Assign [.Name x pos'] e pos) (G9 te (YU i)):=by
 intro pins s σ H D I h
 refine wpAny_Assign_Name (thn (he pins s σ H _ I h) fun v s1 z_=>?_) hs
 obtain⟨y,H1,I1,r1,q1⟩:=z_
 exact Yh I1 hN hi hx r1 (fun s2 I2=>⟨_,H1,I2,q1⟩) hf
end
section
variable{X:Cx}{pos:Pos}
end
structure It where
 go:Nat→Hp→Prop
 yld:Nat→Hp→V→Hp→Prop
 stop:Nat→Hp→Prop
noncomputable def uw(X:Cx)(pins:List (Addr×Obj))(H:Hp)(b:Addr):Prop:=
 H b=none∧b≠X.env.locals∧b∉X.fs∧(b∈X.ex∨X.s₀.heap.objs.size≤b)∧(∀x c,X.env.cells.lookup x=some c→c≠b)∧∀p∈X.pn++pins,p.1≠b
theorem Inv.fpOk{X:Cx}{pins:List (Addr×Obj)}{σ:St}{H H':Hp}{s:Shared}{b:Addr}(I:Inv X pins σ H s)(hb:s.heap.objs.size≤b)(hn:H' b=none):uw X pins H' b:=by
 refine⟨hn,ne_of_gt (lt_of_lt_of_le I.lt hb),I.nofs hb,.inr (le_trans I.sz hb),fun x c e z=>?_,fun p hp z=>?_⟩
 ·obtain⟨v,q⟩:=I.cell x c e
  exact absurd (lt_of_lt_of_le q.lt (by rw[z];exact hb)) (lt_irrefl _)
 ·exact absurd (lt_of_lt_of_le (Heap.lt_size (I.pin p hp).1) (by rw[z];exact hb)) (lt_irrefl _)
structure jS(P:Program)(w:World)(K:Frag)(tg:Expr)(J:It)(fp:List Addr)(it:Addr)(tn:Nat→Heap→Prop):Prop where
 mem:it∈fp
 obj:∀i h,tn i h→∀b∈fp,∃o,h.get? b=some o∧∀v,o.data≠.cell v
 keep:∀i h h',tn i h→(∀b∈fp,∀o,h.get? b=some o→h'.get? b=some o)→tn i h'
 item:∀(X:Cx),X.prog=P→X.w=w→X.K=K→X.calm=true→∀(i:Nat) (pins:List (Addr×Obj)) (s:Shared) (σ:St) (H:Hp) (E:Value→Shared→Prop),Inv X pins σ H s→(∀b∈fp,uw X pins H b)→tn i s.heap→J.go i H →
  wpAny (model P w) X.A (pyNext (.ref it)) (fun r s1=>∃u,r=some u ∧
   wpAny (model P w) X.A (letOwnedTupleGo tg (.ref it) u) (fun _ s2=>∃x H',Inv X pins σ H' s2∧RelV x u∧J.yld i H x H'∧tn (i+1) s2.heap∧∀b∈fp,H' b=none) E s1) E s
 done:∀(X:Cx),X.prog=P→X.w=w→X.K=K→X.calm=true→∀(i:Nat) (pins:List (Addr×Obj)) (s:Shared) (σ:St) (H:Hp) (E:Value→Shared→Prop),Inv X pins σ H s→(∀b∈fp,uw X pins H b)→tn i s.heap→J.stop i H →
  wpAny (model P w) X.A (pyNext (.ref it)) (fun r s1=>r=none∧Inv X pins σ H s1) E s
 self:∀(A:Around) (i:Nat) (s:Shared) (Q:Value→Shared→Prop) (E:Value→Shared→Prop),tn i s.heap→Q (.ref it) s→wpAny (model P w) A (pyIter (.ref it)) Q E s
noncomputable abbrev TI:=St→Hp→(It→Hp→Prop)→Prop
noncomputable def PIE(X:Cx)(pins:List (Addr×Obj))(σ:St)(tg:Expr)(R:It→Hp→Prop)(itv:Value)(s2:Shared):Prop:=
 ∃(it:Addr) (fp:List Addr) (tn:Nat→Heap→Prop) (J:It) (H':Hp),itv=.ref it∧Inv X pins σ H' s2∧jS X.prog X.w X.K tg J fp it tn∧tn 0 s2.heap∧(∀b∈fp,uw X pins H' b)∧R J H'
noncomputable def PI(X:Cx)(tg iter:Expr)(wi:TI):Prop:=
 ∀(pins:List (Addr×Obj)) (s:Shared) (σ:St) (H:Hp) (R:It→Hp→Prop),Inv X pins σ H s→wi σ H R →
  wpAny (model X.prog X.w) X.A (eval iter X.env) (fun v s1=>wpAny (model X.prog X.w) X.A (pyIter v) (PIE X pins σ tg R) X.xe s1) X.xe s
theorem YS{M:Model}{A:Around}{E:Value→Shared→Prop}{s:Shared}{tg:Expr}{it:Addr}{u:Value}{o:Obj}{n:String}{vs:Array Value}{Q:Unit→Shared→Prop}(ho:s.heap.get? it=some o)(hc:o.cls=.type n)(hd:o.data=.fields vs)
  (hn:["enumerate", "zip", "dict_itemiterator", "dict_reverseitemiterator", "odict_iterator", "itertools.zip_longest", "itertools.pairwise"].contains n=false) (hQ:Q () s):wpAny M A (letOwnedTupleGo tg (.ref it) u) Q E s:=by
 unfold letOwnedTupleGo
 cases tg <;> first
  | exact wpAny_pure hQ
  | (cases u <;> first
    | exact wpAny_pure hQ
    | (refine wpAny_bind (wpAny_load ho ?_)
       rw[hc,hd]
       show wpAny M A (if (["enumerate", "zip", "dict_itemiterator", "dict_reverseitemiterator", "odict_iterator", "itertools.zip_longest", "itertools.pairwise"].contains n&&vs[0]?==some (rawInt _))=true then _ else _) Q E s
       rw[if_neg (by intro h;rw[hn,Bool.false_and] at h;cases h)]
       exact wpAny_pure hQ))
noncomputable def Itl(K:Frag)(a:Addr):It:=
 ⟨fun i H=>∃xs x,SqL K H a xs∧xs[i]?=some x,fun i H x H'=>H'=H∧∀xs,SqL K H a xs→xs[i]?=some x,fun i H=>∃xs,SqL K H a xs∧xs.length≤i⟩
noncomputable def Itt(K:Frag)(a:Addr):It:=
 ⟨fun i H=>∃xs x,SqT K H a xs∧xs[i]?=some x,fun i H x H'=>H'=H∧∀xs,SqT K H a xs→xs[i]?=some x,fun i H=>∃xs,SqT K H a xs∧xs.length≤i⟩
noncomputable def Itr(lo:Int)(n:Nat):It:=⟨fun i _=>i<n,fun i H x H'=>H'=H∧x=.int (lo+i),fun i _=>n≤i⟩
theorem jY{P:Program}{w:World}{K:Frag}{tg:Expr}(a it:Addr):jS P w K tg (Itl K a) [it] it (fun i h=>h.IsListIter it a i) where
 mem:=by simp
 obj:=fun i h st b hb=>by
  have e:b=it:=by simpa using hb
  subst e
  obtain⟨o,e,c,d⟩:=st
  exact⟨o,e,fun v z=>by rw[d] at z;cases z⟩
 keep:=fun i h h' st k=>st.at fun o e=>k it (by simp) o e
 item:=by
  intro X hP hw hK hc i pins s σ H E I hf st hg
  subst hP hw hK
  obtain⟨xs,x,hq,hx⟩:=hg
  obtain⟨its,rv,p,hz⟩:=I.list hq
  obtain⟨u,hu,ru⟩:=rv.get hx
  obtain⟨f0,f1,f2,f3,f4,f5⟩:=hf it (by simp)
  refine wpAny_pyNext_list_item st p.isList (x:=u) (by simpa using hu) fun h' st' sb=>?_
  have I1:Inv X pins σ H { s with heap:=h' }:=I.turned (t':=s.toks) (fun b o hb e=>(sb.2 b hb).trans e) f0 f1 f3 f4 f5
  obtain⟨o,e,c,d⟩:=id st'
  exact⟨u,rfl,YS (s:={ s with heap:=h' }) e c d (by decide) ⟨x,H,I1,ru,⟨rfl,fun ys hy=>by rw[I.list_inj hy hq];exact hx⟩,st',fun b hb=>(hf b hb).1⟩⟩
 done:=by
  intro X hP hw hK hc i pins s σ H E I hf st hg
  subst hP hw hK
  obtain⟨xs,hq,hx⟩:=hg
  obtain⟨its,rv,p,hz⟩:=I.list hq
  obtain⟨f0,f1,f2,f3,f4,f5⟩:=hf it (by simp)
  have hl:=rv.length
  exact wpAny_pyNext_list_end (I.ok.hd hc) st p.isList (by simp;lia) fun h' eb=>⟨rfl,I.turned (t':=s.toks) (fun b o hb e=>eb b o hb e) f0 f1 f3 f4 f5⟩
 self:=fun _ _ _ _ _ st h=>wpAny_pyIter_listiter st h
theorem Xc{P:Program}{w:World}{K:Frag}{tg:Expr}(a it:Addr):jS P w K tg (Itt K a) [it] it (fun i h=>h.IsTupleIter it a i) where
 mem:=by simp
 obj:=fun i h st b hb=>by
  have e:b=it:=by simpa using hb
  subst e
  obtain⟨o,e,c,d⟩:=st
  exact⟨o,e,fun v z=>by rw[d] at z;cases z⟩
 keep:=fun i h h' st k=>st.at fun o e=>k it (by simp) o e
 item:=by
  intro X hP hw hK hc i pins s σ H E I hf st hg
  subst hP hw hK
  obtain⟨xs,x,hq,hx⟩:=hg
  obtain⟨its,rv,p,hz⟩:=I.tuple hq
  obtain⟨u,hu,ru⟩:=rv.get hx
  obtain⟨f0,f1,f2,f3,f4,f5⟩:=hf it (by simp)
  refine wpAny_pyNext_tuple_item st (show s.heap.IsTuple a its.toArray from p) (x:=u) (by simpa using hu) fun h' st' sb=>?_
  have I1:Inv X pins σ H { s with heap:=h' }:=I.turned (t':=s.toks) (fun b o hb e=>(sb.2 b hb).trans e) f0 f1 f3 f4 f5
  obtain⟨o,e,c,d⟩:=id st'
  exact⟨u,rfl,YS (s:={ s with heap:=h' }) e c d (by decide) ⟨x,H,I1,ru,⟨rfl,fun ys hy=>by rw[I.tuple_inj hy hq];exact hx⟩,st',fun b hb=>(hf b hb).1⟩⟩
 done:=by
  intro X hP hw hK hc i pins s σ H E I hf st hg
  subst hP hw hK
  obtain⟨xs,hq,hx⟩:=hg
  obtain⟨its,rv,p,hz⟩:=I.tuple hq
  obtain⟨f0,f1,f2,f3,f4,f5⟩:=hf it (by simp)
  have hl:=rv.length
  exact wpAny_pyNext_tuple_end (I.ok.hd hc) st (show s.heap.IsTuple a its.toArray from p) (by simp;lia) fun h' eb=>⟨rfl,I.turned (t':=s.toks) (fun b o hb e=>eb b o hb e) f0 f1 f3 f4 f5⟩
 self:=fun _ _ _ _ _ st h=>wpAny_pyIter_tupleiter st h
theorem Xd{P:Program}{w:World}{K:Frag}{tg:Expr}(it:Addr)(lo:Int)(n:Nat):jS P w K tg (Itr lo n) [it] it (fun i h=>IsRangeIter h it (lo+(i:Nat)*1) ((n:Int)-(i:Nat)) 1) where
 mem:=by simp
 obj:=fun i h st b hb=>by
  have e:b=it:=by simpa using hb
  subst e
  exact⟨_,st,fun v z=>by
   have z':Data.fields _=Data.cell v:=z
   cases z'⟩
 keep:=fun i h h' st k=>k it (by simp) _ st
 item:=by
  intro X hP hw hK hc i pins s σ H E I hf st hg
  subst hP hw hK
  obtain⟨f0,f1,f2,f3,f4,f5⟩:=hf it (by simp)
  have W:=Walks.range (prog:=X.prog) (w:=X.w) (I.ok.hd hc) it lo 1 n
  refine W.item i s _ _ hg st fun v h' tk hv st' kk=>?_
  obtain⟨t,rfl⟩:=hv
  have I1:Inv X pins σ H { s with heap:=h',toks:=tk }:=I.turned (fun b o hb e=>kk b o (by simpa using hb) e) f0 f1 f3 f4 f5
  refine⟨_,rfl,YS (s:={ s with heap:=h',toks:=tk }) (n := "range_iterator") st' rfl rfl (by decide) ⟨.int (lo+i),H,I1,⟨t,?_⟩,⟨rfl,rfl⟩,st',fun b hb=>(hf b hb).1⟩⟩
  rw[Int.mul_one]
 done:=by
  intro X hP hw hK hc i pins s σ H E I hf st hg
  subst hP hw hK
  obtain⟨f0,f1,f2,f3,f4,f5⟩:=hf it (by simp)
  exact wpAny_pyNext_range_end (I.ok.hd hc) st (by have:n≤i:=hg;lia) fun h' eb=>⟨rfl,I.turned (t':=s.toks) (fun b o hb e=>eb b o hb e) f0 f1 f3 f4 f5⟩
 self:=fun _ _ _ _ _ st h=>wpAny_pyIter_rangeiter st h
section
variable{X:Cx}{tg:Expr}
noncomputable def iList(K:Frag)(tl:TE):TI:=fun σ H R=>tl σ H fun x H1=>∃a,x=.ref a∧(∃xs,SqL K H1 a xs)∧R (Itl K a) H1
theorem Qh{l:Expr}{tl:TE}(hl:PE X l tl):PI X tg l (iList X.K tl):=by
 intro pins s σ H R I h
 refine thn (hl pins s σ H _ I h) fun v s1 z_=>?_
 obtain⟨x,H1,I1,r1,q1⟩:=z_
 obtain⟨a,e,⟨xs,hq⟩,q⟩:=q1
 subst e
 cases r1
 obtain⟨its,rv,p,hz⟩:=I1.list hq
 refine wpAny_pyIter_list p.isList ?_
 refine⟨s1.heap.objs.size,[s1.heap.objs.size],_,_,H1,rfl,I1.kept (t':=s1.toks) fun b o e=>get?_push_of_some _ e,jY a _,⟨_,Heap.get?_push_size _ rfl,rfl,rfl⟩,fun b hb=>?_,q⟩
 have e:b=s1.heap.objs.size:=by simpa using hb
 subst e
 exact I1.fpOk (le_refl _) (I1.hok.fresh (le_refl _))
theorem Uf{pins:List (Addr×Obj)}{σ:St}{H:Hp}{s:Shared}{R:It→Hp→Prop}{E:Value→Shared→Prop}{lo hi:Int}{t u v:Tok}{tk:Nat}(I:Inv X pins σ H s)(h1 : -(2 ^ 62)≤lo)(h2:lo<2 ^ 62)(h3 : -(2 ^ 62)≤hi)(h4:hi<2 ^ 62)
  (q:R (Itr lo (hi-lo).toNat) H):wpAny (model X.prog X.w) X.A (pyIter (.ref s.heap.objs.size)) (PIE X pins σ tg R) E { s with heap:=s.heap.push { cls:=.type "range", data:=.fields #[.int lo t,.int hi u,.int 1 v] },toks:=tk }:=by
 refine wpAny_pyIter_range (IsRange.new ..) (small_one h1 h2 h3 h4) ?_
 have I1:Inv X pins σ H { s with heap:=s.heap.push { cls:=.type "range", data:=.fields #[.int lo t,.int hi u,.int 1 v] },toks:=tk }:=I.kept fun b o e=>get?_push_of_some _ e
 refine⟨(s.heap.push { cls:=.type "range", data:=.fields #[.int lo t,.int hi u,.int 1 v] }).objs.size,[(s.heap.push { cls:=.type "range", data:=.fields #[.int lo t,.int hi u,.int 1 v] }).objs.size],_,_,H,rfl,
  I1.kept (t':=tk) fun b o e=>get?_push_of_some _ e,Xd _ lo (hi-lo).toNat,?_,fun b hb=>?_,q⟩
 ·have e1:lo+((0:Nat):Int)*1=lo:=by simp
  have e2:(((hi-lo).toNat:Nat):Int)-((0:Nat):Int)=Builtin.Range.rangeSize lo hi 1:=by rw[rangeSize_one];split <;> lia
  show IsRangeIter _ _ (lo+((0:Nat):Int)*1) ((((hi-lo).toNat:Nat):Int)-((0:Nat):Int)) 1
  rw[e1,e2]
  exact Heap.get?_push_size _ rfl
 ·have e:b=(s.heap.push { cls:=.type "range", data:=.fields #[.int lo t,.int hi u,.int 1 v] }).objs.size:=by simpa using hb
  subst e
  exact I1.fpOk (le_refl _) (I1.hok.fresh (le_refl _))
noncomputable def iRng1(ta:TA):TI:=fun σ H R=>ta σ H fun vs H1=>∃j:Int,vs=[.int j]∧-(2 ^ 62)≤j∧j<2 ^ 62∧R (Itr 0 j.toNat) H1
theorem Vb{a:Expr}{ta:TA}{p pos:Pos}(hg:Gl X "range")(hm:X.mg "range" = none)(ha:PA X [a] ta)(hs:starEach [a] X.env=[(false,eval a X.env)]:=by rfl):PI X tg (.Call (.Name "range" p) [a] [] pos) (iRng1 ta):=by
 intro pins s σ H R I h
 refine Call_ (uk I hg hm boot_range (PyProof.Rows.callWith_type1 (thn (ha pos pins s σ H _ I h) fun us s1 z_=>?_) hs rfl))
 obtain⟨vs,H1,I1,r1,q1⟩:=z_
 obtain⟨j,e,q1,q2,q⟩:=q1
 subst e
 cases r1 with
 |cons r rr=>
  cases rr
  obtain⟨t,rfl⟩:=r
  exact call_range_1 (Uf I1 (by lia) (by lia) q1 q2 (by simpa using q))
noncomputable def tFor(wi:TI)(g:TG)(tb:TS):TS:=fun D σ H=>wi σ H fun J H1=>∃W:Nat→Nat→St→Hp→Prop,(∃m,W 0 m σ H1)∧∀i m σ H,W i m σ H →
 (J.stop i H∧D.nx σ H)∨(J.go i H∧∃N:St→Hp→Prop,(∀σ' H',N σ' H'→∃m',m'<m∧W (i+1) m' σ' H')∧∀x H',J.yld i H x H'→g x σ H' fun σ2 H2=>tb { D with nx:=N,ct:=N,bk:=D.nx } σ2 H2)
noncomputable def uc(fp:List Addr)(h:Heap):List (Addr×Obj):=fp.filterMap fun b=>(h.get? b).map fun o=>(b,o)
theorem xf{fp:List Addr}{h:Heap}{b:Addr}{o:Obj}(hb:b∈fp)(e:h.get? b=some o):(b,o)∈uc fp h:=List.mem_filterMap.mpr ⟨b,hb,by rw[e];rfl⟩
theorem Vk{fp:List Addr}{h:Heap}{p:Addr×Obj}(hp:p∈uc fp h):p.1∈fp∧h.get? p.1=some p.2:=by
 obtain⟨b,hb,e⟩:=List.mem_filterMap.mp hp
 cases q:h.get? b with
 |none=>rw[q] at e;cases e
 |some o=>
  rw[q] at e
  have e':(b,o)=p:=Option.some.inj e
  subst e'
  exact⟨hb,q⟩
theorem Inv.pinned{pins:List (Addr×Obj)}{σ:St}{H:Hp}{s:Shared}{fp:List Addr}(I:Inv X pins σ H s)(hf:∀b∈fp,uw X pins H b)(ho:∀b∈fp,∃o,s.heap.get? b=some o∧∀v,o.data≠.cell v):Inv X (pins++uc fp s.heap) σ H s:=
 I.pins_of fun p hp=>(mem_append.mp hp).elim (fun z=>I.pin p (mem_append_right _ z)) fun z=>by
  obtain⟨hb,e⟩:=Vk z
  obtain⟨f0,f1,f2,_⟩:=hf p.1 hb
  obtain⟨o,e',d⟩:=ho p.1 hb
  rw[e] at e';cases e'
  exact⟨e,f0,f1,f2,d⟩
theorem Inv.unpinned{pins pl:List (Addr×Obj)}{σ:St}{H:Hp}{s:Shared}(I:Inv X (pins++pl) σ H s):Inv X pins σ H s:=I.pins_of fun p hp=>I.pin p (mem_append_right _ (List.mem_append_left _ hp))
theorem Xp{iter:Expr}{body:List Stmt}{wi:TI}{g:TG}{tb:TS}{pos:Pos}(hp:PassesOwn (model X.prog X.w) X.A X.env X.xe)(hc:X.calm=true)(hi:PI X tg iter wi)(hg:PG X tg g)(hb:PSs X body tb)
  (hs:∀x,foldedSetIterable iter X.env x=pure x:=by intro _;rfl):PS X (.For tg iter body [] pos) (tFor wi g tb):=by
 intro pins s σ H D I h
 refine wpAny_For (thn (hi pins s σ H _ I h) fun v s1 h1=>thn h1 fun itv s2 h2=>?_) hs
 obtain⟨it,fp,tn,J,H2,e,I2,T,st2,f2,W,⟨m0,w0⟩,turn⟩:=h2
 subst e
 have stat:∀{H':Hp},(∀b∈fp,H' b=none)→∀b∈fp,uw X pins H' b:=fun hn b hb=>⟨hn b hb,(f2 b hb).2⟩
 refine codeAny_forLoop_any (fun n s'=>∃i σ' H',Inv X pins σ' H' s'∧tn i s'.heap∧(∀b∈fp,H' b=none)∧W i n σ' H') ?_ m0 ⟨0,σ,H2,I2,st2,fun b hb=>(f2 b hb).1,w0⟩
 rintro n s3 ⟨i,σ3,H3,I3,st3,fr3,w3⟩
 rcases turn i n σ3 H3 w3 with ⟨stop,qn⟩|⟨go,N,hN,step⟩
 ·refine wpAny_passesOwn hp (thn (T.done X rfl rfl rfl hc i pins s3 σ3 H3 X.xe I3 (stat fr3) st3 stop) fun r s4 z_=>?_)
  obtain⟨hr,I4⟩:=z_
  subst hr
  exact wpAny_execs_nil ⟨σ3,H3,I4,qn⟩
 ·refine wpAny_passesOwn hp (thn (T.item X rfl rfl rfl hc i pins s3 σ3 H3 X.xe I3 (stat fr3) st3 go) fun r s4 z_=>?_)
  obtain⟨u,hr,h4⟩:=z_
  subst hr
  refine wpAny_passesOwn hp (thn h4 fun _ s5 z_=>?_)
  obtain⟨x,H5,I5,r5,y5,st5,fr5⟩:=z_
  have I5':=I5.pinned (stat fr5) (T.obj _ _ st5)
  refine wpAny_passesOwn hp (thn (hg _ s5 σ3 H5 x u _ I5' r5 (step x H5 y5)) fun _ s6 z_=>?_)
  obtain⟨σ6,H6,I6,q6⟩:=z_
  refine wpAny_passesOwn hp (thn (hb _ s6 σ6 H6 _ I6 q6) fun f s7 q7=>?_)
  have again:∀{σ7:St} {H7:Hp},Inv X (pins++uc fp s5.heap) σ7 H7 s7→N σ7 H7→∃m,m<n∧∃i σ' H',Inv X pins σ' H' s7∧tn i s7.heap∧(∀b∈fp,H' b=none)∧W i m σ' H':=fun {σ7 H7} I7 n7=>by
   obtain⟨m',hm,w7⟩:=hN σ7 H7 n7
   refine⟨m',hm,i+1,σ7,H7,I7.unpinned,T.keep _ _ _ st5 fun b hb o e=>(I7.pin (b,o) (mem_append_right _ (mem_append_right _ (xf hb e)))).1,fun b hb=>?_,w7⟩
   obtain⟨o,e,d⟩:=T.obj _ _ st5 b hb
   exact(I7.pin (b,o) (mem_append_right _ (mem_append_right _ (xf hb e)))).2.1
  cases f with
  |next=>obtain⟨σ7,H7,I7,n7⟩:=q7;exact again I7 n7
  |cont=>obtain⟨σ7,H7,I7,n7⟩:=q7;exact again I7 n7
  |brk=>obtain⟨σ7,H7,I7,q7⟩:=q7;exact⟨σ7,H7,I7.unpinned,q7⟩
  |ret v=>obtain⟨x7,σ7,H7,I7,r7,q7⟩:=q7;exact⟨x7,σ7,H7,I7.unpinned,r7,q7⟩
end
noncomputable abbrev R2:=V→V→Hp→VK→Prop
noncomputable def OpR(X:Cx)(f:Value→Value→Sem Value)(r:R2):Prop:=
 ∀(pins:List (Addr×Obj)) (s:Shared) (σ:St) (H:Hp) (x y:V) (v u:Value) (Q:VK),Inv X pins σ H s→RelV x v→RelV y u→r x y H Q →
  wpAny (model X.prog X.w) X.A (f v u) (EP X pins σ Q) X.xe s
noncomputable def UnR(X:Cx)(f:Value→Sem Value)(r:V→Hp→VK→Prop):Prop:=
 ∀(pins:List (Addr×Obj)) (s:Shared) (σ:St) (H:Hp) (x:V) (v:Value) (Q:VK),Inv X pins σ H s→RelV x v→r x H Q →
  wpAny (model X.prog X.w) X.A (f v) (EP X pins σ Q) X.xe s
noncomputable def CallR(X:Cx)(f:Value)(r:List V→Hp→VK→Prop):Prop:=
 ∀(pins:List (Addr×Obj)) (s:Shared) (σ:St) (H:Hp) (xs:List V) (us:List Value) (Q:VK),Inv X pins σ H s→Vals xs us→r xs H Q →
  wpAny (model X.prog X.w) X.A (call f us) (EP X pins σ Q) X.xe s
noncomputable def TruR(X:Cx)(r:V→Hp→(Bool→Hp→Prop)→Prop):Prop:=
 ∀(pins:List (Addr×Obj)) (s:Shared) (σ:St) (H:Hp) (x:V) (v:Value) (Q:Bool→Hp→Prop),Inv X pins σ H s→RelV x v→r x H Q →
  wpAny (model X.prog X.w) X.A (truthy v) (TP X pins σ Q) X.xe s
noncomputable def tOp(r:R2)(ta tb:TE):TE:=fun σ H Q=>ta σ H fun x H1=>tb σ H1 fun y H2=>r x y H2 Q
noncomputable def tUn(r:V→Hp→VK→Prop)(ta:TE):TE:=fun σ H Q=>ta σ H fun x H1=>r x H1 Q
noncomputable def rI(C:Int→Int→Prop)(g:Int→Int→V):R2:=fun x y H Q=>∃i j,x=.int i∧y=.int j∧C i j∧Q (g i j) H
noncomputable def rI0(g:Int→Int→V):R2:=fun x y H Q=>∃i j,x=.int i∧y=.int j∧Q (g i j) H
noncomputable def rU(g:Int→V):V→Hp→VK→Prop:=fun x H Q=>∃i,x=.int i∧Q (g i) H
section
variable{X:Cx}{a b c:Expr}{ta tb tc:TE}{pos:Pos}
theorem Tp(ha:PE X a ta)(hb:PE X b tb){pins:List (Addr×Obj)}{s:Shared}{σ:St}{H:Hp}{R:V→V→Hp→Prop}(I:Inv X pins σ H s)
  (h:ta σ H fun x H1=>tb σ H1 fun y H2=>R x y H2) {Q:Value→Shared→Prop} {f:Value→Value→Sem Value}
  (hf:∀v u s2 x y H2,Inv X pins σ H2 s2→RelV x v→RelV y u→R x y H2→wpAny (model X.prog X.w) X.A (f v u) Q X.xe s2) :
  wpAny (model X.prog X.w) X.A (eval a X.env) (fun v s₁=>wpAny (model X.prog X.w) X.A (eval b X.env) (fun u s₂=>wpAny (model X.prog X.w) X.A (f v u) Q X.xe s₂) X.xe s₁) X.xe s:=by
 refine thn (ha pins s σ H _ I h) fun v s1 z_=>?_
 obtain⟨x,H1,I1,r1,q1⟩:=z_
 refine thn (hb pins s1 σ H1 _ I1 q1) fun u s2 z_=>?_
 obtain⟨y,H2,I2,r2,q2⟩:=z_
 exact hf v u s2 x y H2 I2 r1 r2 q2
theorem GK{op:Operator}{r:R2}(ho:OpR X (binaryOp op) r)(ha:PE X a ta)(hb:PE X b tb):PE X (.BinOp a op b pos) (tOp r ta tb):=by
 intro pins s σ H Q I h
 exact wpAny_BinOp (Tp ha hb I h fun v u s2 x y H2 I2 rx ry q=>ho pins s2 σ H2 x y v u Q I2 rx ry q)
theorem pe_un{op:UnaryOp}{r:V→Hp→VK→Prop}(ho:UnR X (unaryOp op) r)(ha:PE X a ta):PE X (.UnaryOp op a pos) (tUn r ta):=by
 intro pins s σ H Q I h
 exact UnaryOp_ (thn (ha pins s σ H _ I h) fun v s1 ⟨x,H1,I1,r1,q1⟩=>ho pins s1 σ H1 x v Q I1 r1 q1)
theorem opI{f:Value→Value→Sem Value}{C:Int→Int→Prop}{g:Int→Int→Int}
  (rule:∀(i j:Int) (t u:Tok) (s:Shared) (Q:Value→Shared→Prop) (E:Value→Shared→Prop),C i j→Q (.int (g i j) s.toks) { s with toks:=s.toks+1 }→wpAny (model X.prog X.w) X.A (f (.int i t) (.int j u)) Q E s) :
  OpR X f (rI C fun i j=>.int (g i j)):=by
 intro pins s σ H x y v u Q I rx ry h
 obtain⟨i,j,rfl,rfl,hc,q⟩:=h
 obtain⟨t,rfl⟩:=rx
 obtain⟨t',rfl⟩:=ry
 exact rule i j t t' s _ _ hc ⟨.int (g i j),H,I.tok _,⟨_,rfl⟩,q⟩
theorem opI0{f:Value→Value→Sem Value}{g:Int→Int→Int}
  (rule:∀(i j:Int) (t u:Tok) (s:Shared) (Q:Value→Shared→Prop) (E:Value→Shared→Prop),Q (.int (g i j) s.toks) { s with toks:=s.toks+1 }→wpAny (model X.prog X.w) X.A (f (.int i t) (.int j u)) Q E s) :
  OpR X f (rI0 fun i j=>.int (g i j)):=by
 intro pins s σ H x y v u Q I rx ry h
 obtain⟨i,j,rfl,rfl,q⟩:=h
 obtain⟨t,rfl⟩:=rx
 obtain⟨t',rfl⟩:=ry
 exact rule i j t t' s _ _ ⟨.int (g i j),H,I.tok _,⟨_,rfl⟩,q⟩
theorem opB0{f:Value→Value→Sem Value}{g:Int→Int→Bool}
  (rule:∀(i j:Int) (t u:Tok) (s:Shared) (Q:Value→Shared→Prop) (E:Value→Shared→Prop),Q (.bool (g i j)) s→wpAny (model X.prog X.w) X.A (f (.int i t) (.int j u)) Q E s) :
  OpR X f (rI0 fun i j=>.bl (g i j)):=by
 intro pins s σ H x y v u Q I rx ry h
 obtain⟨i,j,rfl,rfl,q⟩:=h
 obtain⟨t,rfl⟩:=rx
 obtain⟨t',rfl⟩:=ry
 exact rule i j t t' s _ _ ⟨.bl (g i j),H,I,rfl,q⟩
noncomputable def CDiv(i j:Int):Prop:=0<j∧j<1073741824
noncomputable def CMul(i j:Int):Prop:=(-(2 ^ 64)<i∧i<2 ^ 64)∨(-(2 ^ 64)<j∧j<2 ^ 64)
theorem CMul.ok{i j:Int}(h:CMul i j):IntMulOk i j:=by
 rcases h with ⟨h1,h2⟩|⟨h1,h2⟩
 ·exact .of_left (intBits_le_64 h1 h2)
 ·exact .of_right (intBits_le_64 h1 h2)
theorem op_add:OpR X (binaryOp .Add) (rI0 fun i j=>.int (i+j)):=opI0 fun _ _ _ _ _ _ _ q=>add_int q
theorem MC:OpR X (binaryOp .Sub) (rI0 fun i j=>.int (i-j)):=opI0 fun _ _ _ _ _ _ _ q=>sub_int q
theorem op_mul:OpR X (binaryOp .Mult) (rI CMul fun i j=>.int (i*j)):=opI fun _ _ _ _ _ _ _ hc q=>mul_int q hc.ok
theorem QB:OpR X (binaryOp .FloorDiv) (rI CDiv fun i j=>.int (i / j)):=opI fun i j _ _ _ _ _ hc q=>by
 have h1:(0:Int)<j:=hc.1
 have h2:j<1073741824:=hc.2
 exact floordiv_int (by lia) (by rw[Int.fdiv_eq_ediv_of_nonneg i (by lia)];exact q) (.inl (PyProof.noPylong_small (by lia)))
theorem ME:OpR X (binaryOp .Mod) (rI (fun _ j=>0<j) fun i j=>.int (i%j)):=opI fun i j _ _ _ _ _ hc q=>by
 have h1:(0:Int)<j:=hc
 exact mod_int' (by lia) (by rw[Int.fmod_eq_emod_of_nonneg i (by lia)];exact q)
theorem unI{f:Value→Sem Value}{g:Int→Int}
  (rule:∀(i:Int) (t:Tok) (s:Shared) (Q:Value→Shared→Prop) (E:Value→Shared→Prop),Q (.int (g i) s.toks) { s with toks:=s.toks+1 }→wpAny (model X.prog X.w) X.A (f (.int i t)) Q E s) :
  UnR X f (rU fun i=>.int (g i)):=by
 intro pins s σ H x v Q I rx h
 obtain⟨i,rfl,q⟩:=h
 obtain⟨t,rfl⟩:=rx
 exact rule i t s _ _ ⟨.int (g i),H,I.tok _,⟨_,rfl⟩,q⟩
theorem G4:UnR X (unaryOp .USub) (rU fun i=>.int (-i)):=unI fun _ _ _ _ _ q=>neg_int q
end
noncomputable def scal:V→V→Bool
 |.non,.non=>true | .non,.int _=>true | .int _,.non=>true | .non,.bl _=>true | .bl _,.non=>true | .non,.str _=>true | .str _,.non=>true
 |.int _,.int _=>true | .bl _,.bl _=>true | .str _,.str _=>true | .byt _,.byt _=>true
 |.int _,.str _=>true | .str _,.int _=>true | .bl _,.str _=>true | .str _,.bl _=>true
 |_,_=>false
noncomputable def rEq:R2:=fun x y H Q=>scal x y=true∧Q (.bl (decide (x=y))) H
noncomputable def rNe:R2:=fun x y H Q=>scal x y=true∧Q (.bl (!decide (x=y))) H
theorem uZ{i j:Int}:decide (V.int i=V.int j)=(i==j):=by
 rw[Bool.eq_iff_iff]
 simp
theorem Jx{i j:Bool}:decide (V.bl i=V.bl j)=(i==j):=by
 rw[Bool.eq_iff_iff]
 simp
theorem uY{i j:Str}:decide (V.str i=V.str j)=(i==j):=by
 rw[Bool.eq_iff_iff]
 simp
theorem WQ{i j:Array UInt8}:decide (V.byt i=V.byt j)=(i.toList==j.toList):=by
 rw[Bool.eq_iff_iff]
 cases i
 cases j
 simp
section
variable{X:Cx}{a b c:Expr}{ta tb tc:TE}{pos:Pos}
theorem zK{pins:List (Addr×Obj)}{σ:St}{H:Hp}{s:Shared}{Q:VK}{k k':Bool}(I:Inv X pins σ H s)(q:Q (.bl k) H)(e:k=k'):EP X pins σ Q (.bool k') s:=by
 subst e
 exact⟨.bl k,H,I,rfl,q⟩
theorem op_eq:OpR X (compareOp .Eq) rEq:=by
 intro pins s σ H x y v u Q I rx ry h
 obtain⟨hs,q⟩:=h
 cases x with
 |non=>
  cases rx
  cases y with
  |non=>cases ry;exact PySem.EqNone.eq_none_none (zK I q (by simp))
  |bl j=>cases ry;exact PySem.EqNone.eq_none_bool (zK I q (by simp))
  |int j=>obtain⟨t',rfl⟩:=ry;exact PySem.EqNone.eq_none_int (zK I q (by simp))
  |str j=>obtain⟨t',rfl⟩:=ry;exact PySem.EqNone.eq_none_str (zK I q (by simp))
  |_=>exact absurd (show false=true from hs) Bool.false_ne_true
 |bl i=>
  cases rx
  cases y with
  |non=>cases ry;exact PySem.EqNone.eq_bool_none (zK I q (by simp))
  |bl j=>cases ry;exact eq_bool (zK I q Jx)
  |str j=>obtain⟨t',rfl⟩:=ry;exact PySem.EqMixed.eq_bool_str (zK I q (by simp))
  |_=>exact absurd (show false=true from hs) Bool.false_ne_true
 |int i=>
  obtain⟨t,rfl⟩:=rx
  cases y with
  |non=>cases ry;exact PySem.EqNone.eq_int_none (zK I q (by simp))
  |int j=>obtain⟨t',rfl⟩:=ry;exact eq_int (zK I q uZ)
  |str j=>obtain⟨t',rfl⟩:=ry;exact PySem.EqMixed.eq_int_str (zK I q (by simp))
  |_=>exact absurd (show false=true from hs) Bool.false_ne_true
 |str i=>
  obtain⟨t,rfl⟩:=rx
  cases y with
  |non=>cases ry;exact PySem.EqNone.eq_str_none (zK I q (by simp))
  |bl j=>cases ry;exact PySem.EqMixed.eq_str_bool (zK I q (by simp))
  |int j=>obtain⟨t',rfl⟩:=ry;exact PySem.EqMixed.eq_str_int (zK I q (by simp))
  |str j=>obtain⟨t',rfl⟩:=ry;exact eq_str (zK I q uY)
  |_=>exact absurd (show false=true from hs) Bool.false_ne_true
 |byt i=>
  obtain⟨t,rfl⟩:=rx
  cases y with
  |byt j=>obtain⟨t',rfl⟩:=ry;exact PySem.W.eq_bytes (zK I q WQ)
  |_=>exact absurd (show false=true from hs) Bool.false_ne_true
 |_=>cases y <;> exact absurd (show false=true from hs) Bool.false_ne_true
theorem op_ne:OpR X (compareOp .NotEq) rNe:=by
 intro pins s σ H x y v u Q I rx ry h
 obtain⟨hs,q⟩:=h
 cases x with
 |non=>
  cases rx
  cases y with
  |non=>cases ry;exact PySem.EqNone.ne_none_none (zK I q (by simp))
  |bl j=>cases ry;exact PySem.EqNone.ne_none_bool (zK I q (by simp))
  |int j=>obtain⟨t',rfl⟩:=ry;exact PySem.EqNone.ne_none_int (zK I q (by simp))
  |str j=>obtain⟨t',rfl⟩:=ry;exact PySem.EqNone.ne_none_str (zK I q (by simp))
  |_=>exact absurd (show false=true from hs) Bool.false_ne_true
 |bl i=>
  cases rx
  cases y with
  |non=>cases ry;exact PySem.EqNone.ne_bool_none (zK I q (by simp))
  |bl j=>cases ry;exact ne_bool (zK I q (congrArg not Jx))
  |str j=>obtain⟨t',rfl⟩:=ry;exact PySem.EqMixed.ne_bool_str (zK I q (by simp))
  |_=>exact absurd (show false=true from hs) Bool.false_ne_true
 |int i=>
  obtain⟨t,rfl⟩:=rx
  cases y with
  |non=>cases ry;exact PySem.EqNone.ne_int_none (zK I q (by simp))
  |int j=>obtain⟨t',rfl⟩:=ry;exact ne_int (zK I q (congrArg not uZ))
  |str j=>obtain⟨t',rfl⟩:=ry;exact PySem.EqMixed.ne_int_str (zK I q (by simp))
  |_=>exact absurd (show false=true from hs) Bool.false_ne_true
 |str i=>
  obtain⟨t,rfl⟩:=rx
  cases y with
  |non=>cases ry;exact PySem.EqNone.ne_str_none (zK I q (by simp))
  |bl j=>cases ry;exact PySem.EqMixed.ne_str_bool (zK I q (by simp))
  |int j=>obtain⟨t',rfl⟩:=ry;exact PySem.EqMixed.ne_str_int (zK I q (by simp))
  |str j=>obtain⟨t',rfl⟩:=ry;exact ne_str (zK I q (congrArg not uY))
  |_=>exact absurd (show false=true from hs) Bool.false_ne_true
 |byt i=>
  obtain⟨t,rfl⟩:=rx
  cases y with
  |byt j=>obtain⟨t',rfl⟩:=ry;exact PySem.W.ne_bytes (zK I q (congrArg not WQ))
  |_=>exact absurd (show false=true from hs) Bool.false_ne_true
 |_=>cases y <;> exact absurd (show false=true from hs) Bool.false_ne_true
theorem op_lt:OpR X (compareOp .Lt) (rI0 fun i j=>.bl (decide (i<j))):=opB0 fun _ _ _ _ _ _ _ q=>lt_int q
theorem op_gt:OpR X (compareOp .Gt) (rI0 fun i j=>.bl (decide (j<i))):=opB0 fun _ _ _ _ _ _ _ q=>gt_int q
theorem op_in_str:OpR X (compareOp .In) (fun x y H Q=>∃i j,x=.str i∧y=.str j∧Q (.bl (!(Builtin.Str.occurrences j i 0 j.length 1).isEmpty)) H):=by
 intro pins s σ H x y v u Q I rx ry h
 obtain⟨i,j,rfl,rfl,q⟩:=h
 obtain⟨t,rfl⟩:=rx
 obtain⟨t',rfl⟩:=ry
 exact in_str (zK I q rfl)
theorem op_notin_str:OpR X (compareOp .NotIn) (fun x y H Q=>∃i j,x=.str i∧y=.str j∧Q (.bl (!(!(Builtin.Str.occurrences j i 0 j.length 1).isEmpty))) H):=by
 intro pins s σ H x y v u Q I rx ry h
 obtain⟨i,j,rfl,rfl,q⟩:=h
 obtain⟨t,rfl⟩:=rx
 obtain⟨t',rfl⟩:=ry
 exact notIn_str (zK I q rfl)
theorem OpR.or{f:Value→Value→Sem Value}{r r':R2}(h:OpR X f r)(h':OpR X f r'):OpR X f (fun x y H Q=>r x y H Q∨r' x y H Q):=by
 intro pins s σ H x y v u Q I rx ry q
 rcases q with q|q
 ·exact h pins s σ H x y v u Q I rx ry q
 ·exact h' pins s σ H x y v u Q I rx ry q
theorem y7(b:Expr){op:CmpOp}(h:op≠.In:=by decide)(h2:op≠.NotIn:=by decide):behindInMarks op b=false:=by
 have e1:(op==CmpOp.In)=false:=by cases op <;> first|rfl|exact absurd rfl h
 have e2:(op==CmpOp.NotIn)=false:=by cases op <;> first|rfl|exact absurd rfl h2
 cases b <;> simp[behindInMarks,e1,e2]
theorem Qn{op:CmpOp}{r:R2}(ho:OpR X (compareOp op) r)(ha:PE X a ta)(hb:PE X b tb)(hm:behindInMarks op b=false):PE X (.Compare a [op] [b] pos) (tOp r ta tb):=by
 intro pins s σ H Q I h
 exact wpAny_Compare1 (Tp ha hb I h fun v u s2 x y H2 I2 rx ry q=>ho pins s2 σ H2 x y v u Q I2 rx ry q) hm
noncomputable def GF(t:TE):TT:=fun σ H Q=>t σ H fun x H'=>∃k,x=.bl k∧Q k H'
theorem Wc{op:CmpOp}{r:R2}(ho:OpR X (compareOp op) r)(ha:PE X a ta)(hb:PE X b tb)(hm:behindInMarks op b=false):PT X (.Compare a [op] [b] pos) (GF (tOp r ta tb)):=by
 intro pins s σ H Q I h
 refine wpAny_isTrue_Compare1 (thn (ha pins s σ H _ I h) fun v s1 ⟨x,H1,I1,r1,q1⟩=>thn (hb pins s1 σ H1 _ I1 q1) fun u s2 ⟨y,H2,I2,r2,q2⟩=>
  thn (ho pins s2 σ H2 x y v u _ I2 r1 r2 q2) fun c s3 ⟨z,H3,I3,r3,k,e,q3⟩=>?_) hm
 subst e
 cases r3
 exact wpAny_truthy_bool ⟨H3,I3,q3⟩
noncomputable def Tu(K:Frag)(x:V)(H:Hp)(k:Bool):Prop:=
 match x with
 |.non=>k=false
 |.bl b=>k=b
 |.int i=>k=(i != 0)
 |.str y=>y.length≤sizeLine∧k=((y.length:Int) != 0)
 |.byt y=>y.size≤sizeLine∧k=((y.size:Int) != 0)
 |.ref p=>(∃xs,SqL K H p xs∧k = !xs.isEmpty)∨(∃xs,SqT K H p xs∧k = !xs.isEmpty)∨∃kvs,H p=some (.dK kvs)∧k = !kvs.isEmpty
 |_=>False
theorem XC{κ:Type}{kvs:List (κ×V)}{vs:List (κ×Value)}(r:KV kvs vs):(!vs.isEmpty) = !kvs.isEmpty:=by
 cases r <;> rfl
theorem ju{xs:List V}{its:List Value}(r:Vals xs its):(!its.toArray.isEmpty) = !xs.isEmpty:=by
 cases r <;> simp
theorem vg:(sizeLine:Nat)<2 ^ 63:=by rw[sizeLine_eq];decide
theorem VW:TruR X (fun x H Q=>∃k,Tu X.K x H k∧Q k H):=by
 intro pins s σ H x v Q I rx h
 obtain⟨k,e,q⟩:=h
 have hl:=vg
 have hs:sizeLine=16777216:=sizeLine_eq
 cases x with
 |non=>
  cases rx
  have e':k=false:=e
  subst e'
  exact truthy_none ⟨H,I,q⟩
 |bl b=>
  cases rx
  have e':k=b:=e
  subst e'
  exact wpAny_truthy_bool ⟨H,I,q⟩
 |int i=>
  obtain⟨t,rfl⟩:=rx
  have e':k=(i != 0):=e
  subst e'
  exact PySem.P.truthy_int ⟨H,I,q⟩
 |str y=>
  obtain⟨t,rfl⟩:=rx
  obtain⟨hy,e'⟩:y.length≤sizeLine∧k=((y.length:Int) != 0):=e
  subst e'
  exact PySem.P.truthy_str (by lia) ⟨H,I.tok _,q⟩
 |byt y=>
  obtain⟨t,rfl⟩:=rx
  obtain⟨hy,e'⟩:y.size≤sizeLine∧k=((y.size:Int) != 0):=e
  subst e'
  exact PySem.W.truthy_bytes (by lia) ⟨H,I.tok _,q⟩
 |ref p=>
  cases rx
  have e':(∃xs,SqL X.K H p xs∧k = !xs.isEmpty)∨(∃xs,SqT X.K H p xs∧k = !xs.isEmpty)∨∃kvs,H p=some (.dK kvs)∧k = !kvs.isEmpty:=e
  rcases e' with ⟨xs,hx,e'⟩|⟨xs,hx,e'⟩|⟨kvs,hx,e'⟩
  ·subst e'
   obtain⟨its,r,pl,hz⟩:=I.list hx
   have hlen:=r.length
   exact wpAny_truthy_list pl.isList (by simp only[size_toArray];lia) ⟨H,I.tok _,by rw[ju r];exact q⟩
  ·subst e'
   obtain⟨its,r,pl,hz⟩:=I.tuple hx
   have hlen:=r.length
   exact truthy_tuple pl (by simp only[size_toArray];lia) ⟨H,I.tok _,by rw[ju r];exact q⟩
  ·subst e'
   obtain⟨hz,hS,vs,r,m⟩:kvs.length≤sizeLine∧(p==sysModules)=false∧∃vs,KV kvs vs∧s.heap.DictOf (zT X.prog X.w) p vs:=I.hok p _ hx
   have hlen:kvs.length=vs.length:=Paired.length r
   exact wpAny_truthy_dict hS m (by lia) ⟨H,I.tok _,by rw[XC r];exact q⟩
 |_=>exact(show False from e).elim
theorem Uk(ha:PE X a ta)(he:∀whole,isTrue a X.env whole=(do let v ← whole;standAt a.pos;holding [v] (truthy v))) :
  PT X a (fun σ H Q=>ta σ H fun x H'=>∃k,Tu X.K x H' k∧Q k H'):=by
 intro pins s σ H Q I h
 exact isTrue_plain (thn (ha pins s σ H _ I h) fun v s1 ⟨x,H1,I1,r1,q1⟩=>VW pins s1 σ H1 x v Q I1 r1 q1) (he _)
theorem op_add_str:OpR X (binaryOp .Add) (fun x y H Q=>∃i j,x=.str i∧y=.str j∧i.length+j.length≤sizeLine∧Q (.str (i++j)) H):=by
 intro pins s σ H x y v u Q I rx ry h
 obtain⟨i,j,rfl,rfl,hz,q⟩:=h
 obtain⟨t,rfl⟩:=rx
 obtain⟨t',rfl⟩:=ry
 exact add_str (fun t' tk=>⟨.str (i++j),H,I.tok _,⟨_,rfl⟩,q⟩) hz
theorem vals1{x:V}{us:List Value}(r:Vals [x] us):∃u,us=[u]∧RelV x u:=by
 cases r with
 |cons r1 r2=>cases r2;exact⟨_,rfl,r1⟩
theorem vals2{x y:V}{us:List Value}(r:Vals [x,y] us):∃u w',us=[u,w']∧RelV x u∧RelV y w':=by
 cases r with
 |cons r1 r2=>
  cases r2 with
  |cons r3 r4=>cases r4;exact⟨_,_,rfl,r1,r3⟩
theorem VO(hc:X.calm=true):CallR X (.builtin "min") (fun xs H Q=>∃i j,xs=[.int i,.int j]∧Q (.int (if j<i then j else i)) H):=by
 intro pins s σ H xs us Q I r h
 obtain⟨i,j,rfl,q⟩:=h
 obtain⟨u,w',rfl,⟨t,rfl⟩,⟨t',rfl⟩⟩:=vals2 r
 refine min_two_ints (I.ok.hd hc) fun h' tk k=>⟨_,H,I.kept k,?_,q⟩
 by_cases hj:j<i
 ·rw[if_pos hj,if_pos hj];exact⟨_,rfl⟩
 ·rw[if_neg hj,if_neg hj];exact⟨_,rfl⟩
end
structure ObjM(h:Heap)(x dx C:Addr)(mA:Str→Option Value):Prop where
 obj:h.get? x=some (instObj C dx)
 ns:h.Ns1 dx mA
 ne:dx≠x
theorem Vq{h:Heap}{dx:Addr}{mA:Str→Option Value}(n:h.Ns1 dx mA):∃od,h.get? dx=some od∧∀name,lookIn name od=some (mA name):=by
 obtain⟨o,es,ep,ho,hd,hk,_,hm⟩:=n
 refine⟨o,ho,fun name=>?_⟩
 have e:=hm name
 unfold nsFind findBy at e
 rw[← Array.find?_toList] at e
 unfold lookIn
 rw[hd]
 dsimp only
 split
 ·rename_i y q
  rw[q] at e
  exact congrArg some e
 ·rename_i q
  rw[q] at e
  have a:es.toList.any (·.refKey)=false:=by
   rw[List.any_eq_false]
   intro y hy
   obtain⟨z,t,hkey⟩:=hk y (Array.mem_toList_iff.mp hy)
   simp[DictEntry.refKey,hkey]
  have a':¬ es.toList.any (·.refKey)=true:=by rw[a];exact Bool.false_ne_true
  rw[if_neg a']
  exact congrArg some e
theorem ObjM.look{h:Heap}{x dx C:Addr}{mA:Str→Option Value}(I:ObjM h x dx C mA):∃od,PySem.W.InstAt h x (instObj C dx) C (some od)∧∀name,lookIn name od=some (mA name):=
 let ⟨od,ho,hl⟩:=Vq I.ns
 ⟨od,⟨I.obj,rfl,rfl,ho⟩,hl⟩
section
variable{prog:Program}{w:World}{A:Around}{E:Value→Shared→Prop}{s:Shared}{K:Frag}{x dx C f:Addr}{mA:Str→Option Value}{name:Str}{v:Value}
theorem Gj{expr:Bool}{Q:Value→Shared→Prop}(X:K.In s.heap)(I:ObjM s.heap x dx C mA)(hg:plainGet K C name=true)(hh:hasDictIn K C=true)
  (ha:findIn K (.ref C) name=some none) (hv:mA name=some v) (hv':PySem.W.handedIn v=true) (h:Q v { s with toks:=s.toks+1 }) :
  wpAny (model prog w) A (getAttr (.ref x) name expr) Q E s:=by
 obtain⟨od,J,hl⟩:=I.look
 exact PySem.W.get_value X J (plainGet_of hg).1 (PySem.W.findObj_own hh ha rfl (by rw[hl,hv])) hv' h
theorem Ji{pl:Sem Bool}{Q:Value×List Value→Shared→Prop}(X:K.In s.heap)(I:ObjM s.heap x dx C mA)(hg:plainGet K C name=true)
  (hf:findIn K (.ref C) name=some (some (.ref f))) (ht:isFn K (.ref f)=true) (hv:mA name=none) (h:Q (.ref f,[.ref x]) s) :
  wpAny (model prog w) A (getMethod (.ref x) name pl) Q E s:=by
 obtain⟨od,J,hl⟩:=I.look
 exact PySem.W.method_fn X J (plainGet_of hg).1 (plainGet_of hg).2 hf (beq_iff_eq.mp ht) (by show(lookIn name od).map (·.isSome)=some false;rw[hl,hv];rfl) h
theorem JV{ns:List Str}{Q:Unit→Shared→Prop}(X:K.In s.heap)(I:ObjM s.heap x dx C mA)
  (hs:findIn K (.ref C) "__setattr__" = some (some (.builtin "object.__setattr__"))) (hp:plainOver K C=true) (ht:takerIn K C name=some none) (hh:hasDictIn K C=true)
  (hw:PySem.Within mA ns) (hsz:ns.length≤sizeLine)
  (h:∀h',ObjM h' x dx C (fun y=>if y=name then some v else mA y)→Heap.SameBut dx s.heap h'→Q () { s with heap:=h',toks:=s.toks+2 }) :
  wpAny (model prog w) A (setAttr (.ref x) name v) Q E s:=by
 obtain⟨od,J,hl⟩:=I.look
 refine PySem.W.set_plain X J hs (PySem.W.osa_open (s:={ s with toks:=s.toks+1 }) (r:=none) X J hp ht fun b=>?_)
 obtain⟨cd,hc,hd'⟩:=PySem.W.any_some hh
 have hx:s.heap.get? x=some ⟨.ref C,some dx,.plain,#[]⟩:=I.obj
 refine wpAny_bind (wpAny_pure (wpAny_bind (wpAny_bind (wpAny_loadPart hx (wpAny_bind (PySem.W.Looks.here (s:={ s with toks:=s.toks+1 }) (PySem.W.looks_clsIn X hc) ?_))))))
 rw[hd']
 refine wpAny_pure (a:=some dx) (wpAny_bind (wpAny_pure (wpAny_bind ?_)))
 refine wpAny_nsSet1 (s:={ s with toks:=s.toks+1 }) I.ns fun h' hn2 hs2=>?_
 obtain⟨oD,esD,epD,hoD,hdD,hcD⟩:=hn2.count (PySem.Within.cons name v hw)
 refine wpAny_bind (wpAny_lookBehind hoD (by rw[hdD];exact pastItsLine_dict (le_trans hcD (by rw[length_cons];lia))) ?_)
 exact wpAny_pure (h _ ⟨(hs2.2 _ (Ne.symm I.ne)).trans I.obj,hn2,I.ne⟩ hs2)
theorem UV{R:Result→Shared→Prop}{vs:List Value}{kw:List (Str×Value)}(X:K.In s.heap)(hm:makesIn K C=true)
  (hi:findIn K (.ref C) "__init__" = some (some (.ref f))) (hf:PySem.W.typeIn K (.ref f)=some (.type "function"))
  (h:codeAny (model prog w) (A.under (.builtin "type.__call__" ⟨.ref C::vs,kw⟩)) (.call (.ref f) ⟨.ref (s.heap.objs.size+1)::vs,kw⟩) (PySem.W.InitBack (s.heap.objs.size+1) R)
   { s with heap:=(s.heap.push emptyDict).push (instObj C s.heap.objs.size) }) :
  codeAny (model prog w) A (.call (.ref C) ⟨vs,kw⟩) R s:=by
 obtain⟨hh,g,d,t,os⟩:=s
 exact PySem.W.make_core (PySem.W.makes_of X hm) (PySem.W.looks_findIn X hi) (fun self=>PySem.W.bind_fn X self hf) (.inl rfl) h
end
noncomputable def xa(f:Str)(v:V):List (Str×V)→List (Str×V)
 |[]=>[(f,v)]
 | (g,x)::r=>if g=f then (g,v)::r else (g,x)::xa f v r
theorem uz(f g:Str)(v:V):∀fs:List (Str×V),(xa f v fs).lookup g=if g=f then some v else fs.lookup g:=by
 intro l_
 induction l_ with
 |nil=>
  show List.lookup g [(f,v)]=_
  by_cases h:g=f
  ·have hb:(g==f)=true:=beq_iff_eq.mpr h
   simp only[List.lookup,hb,if_pos h]
  ·have hb:(g==f)=false:=beq_eq_false_iff_ne.mpr h
   simp only[List.lookup,hb,if_neg h]
 |cons p_ r ih_=>
  obtain⟨k,x⟩:=p_
  have ih:=ih_
  rw[show xa f v ((k,x)::r)=(if k=f then (k,v)::r else (k,x)::xa f v r) from rfl]
  by_cases hk:k=f
  ·rw[if_pos hk]
   by_cases h:g=k
   ·have hb:(g==k)=true:=beq_iff_eq.mpr h
    simp only[List.lookup,hb,if_pos (h.trans hk)]
   ·have hb:(g==k)=false:=beq_eq_false_iff_ne.mpr h
    simp only[List.lookup,hb,if_neg (fun e:g=f=>h (e.trans hk.symm))]
  ·rw[if_neg hk]
   by_cases h:g=k
   ·have hb:(g==k)=true:=beq_iff_eq.mpr h
    simp only[List.lookup,hb,if_neg (fun e:g=f=>hk (h.symm.trans e))]
   ·have hb:(g==k)=false:=beq_eq_false_iff_ne.mpr h
    simp only[List.lookup,hb]
    exact ih
theorem ul(f:Str)(v:V):∀fs:List (Str×V),f∈(xa f v fs).map (·.1)∧∀g,g∈fs.map (·.1)→g∈(xa f v fs).map (·.1):=by
 intro l_
 induction l_ with
 |nil=>
  exact⟨by simp[xa],fun g h=>by simp at h⟩
 |cons p_ r ih_=>
  obtain⟨k,x⟩:=p_
  obtain⟨i1,i2⟩:=ih_
  rw[show xa f v ((k,x)::r)=(if k=f then (k,v)::r else (k,x)::xa f v r) from rfl]
  by_cases hk:k=f
  ·rw[if_pos hk]
   subst hk
   exact⟨by simp,fun g h=>by simpa using h⟩
  ·rw[if_neg hk]
   refine⟨?_,fun g h=>?_⟩
   ·rw[map_cons]
    exact mem_cons_of_mem _ i1
   ·rw[map_cons] at h ⊢
    rcases mem_cons.mp h with e|e
    ·exact mem_cons.mpr (.inl e)
    ·exact mem_cons_of_mem _ (i2 g e)
theorem uB(f:Str)(v:V):∀fs:List (Str×V),(xa f v fs).length≤fs.length+1:=by
 intro l_
 induction l_ with
 |nil=>
  simp[xa]
 |cons p_ r ih_=>
  obtain⟨k,x⟩:=p_
  have ih:=ih_
  rw[show xa f v ((k,x)::r)=(if k=f then (k,v)::r else (k,x)::xa f v r) from rfl]
  by_cases hk:k=f
  ·rw[if_pos hk,length_cons,length_cons];lia
  ·rw[if_neg hk,length_cons,length_cons];lia
theorem RelO.some_of{v:V}{o:Option Value}(r:RelO (some v) o):∃u,o=some u∧RelV v u:=by
 cases o with
 |none=>exact(show False from r).elim
 |some u=>exact⟨u,rfl,r⟩
theorem RelO.none_of{o:Option Value}(r:RelO none o):o=none:=by
 cases o with
 |none=>rfl
 |some u=>exact(show False from r).elim
theorem Vz{v:V}{u:Value}(r:RelV v u):PySem.W.handedIn u=true:=by
 cases v with
 |non=>cases (show u=Value.none from r);rfl
 |bl b=>cases (show u=Value.bool b from r);rfl
 |int i=>obtain⟨t,e⟩:=(show ∃t,u=Value.int i t from r);cases e;rfl
 |str x=>obtain⟨t,e⟩:=(show ∃t,u=Value.str x t from r);cases e;rfl
 |byt b=>obtain⟨t,e⟩:=(show ∃t,u=Value.bytes b t from r);cases e;rfl
 |flt b=>obtain⟨t,e⟩:=(show ∃t,u=Value.float b t from r);cases e;rfl
 |ref a=>cases (show u=Value.ref a from r);rfl
 |ty n=>cases (show u=Value.type n from r);rfl
section
variable{P:Program}{w:World}{H H':Hp}{h h':Heap}{a C dx:Addr}{fs fs':List (Str×V)}
theorem Z2(hok:HOk P w H h)(e:H a=some (.ins C dx fs)):∃mA,ObjM h a dx C mA∧(∀f,RelO (fs.lookup f) (mA f))∧PySem.Within mA (fs.map (·.1))∧fs.length≤1000∧H dx=some (.own a):=by
 obtain⟨d,z,ne,ob,mA,n,r,q⟩:=(show ObjOk P w H h a (.ins C dx fs) from hok a _ e)
 exact⟨mA,⟨ob,n,ne⟩,r,q,z,d⟩
end
structure Cls(K:Frag)(C:Addr):Prop where
 pg:plainGet K C Str.empty=true
 hd:hasDictIn K C=true
 po:plainOver K C=true
 sa:findIn K (.ref C) "__setattr__" = some (some (.builtin "object.__setattr__"))
theorem Cls.get{K:Frag}{C:Addr}(c:Cls K C)(f:Str):plainGet K C f=true:=c.pg
noncomputable def NoAttr(K:Frag)(C:Addr)(f:Str):Prop:=findIn K (.ref C) f=some none
theorem NoAttr.taker{K:Frag}{C:Addr}{f:Str}(n:NoAttr K C f):takerIn K C f=some none:=by
 unfold takerIn
 rw[show findIn K (.ref C) f=some none from n]
 rfl
structure jU(K:Frag)(C:Addr)(m:Str)(f:Addr):Prop where
 at_:findIn K (.ref C) m=some (some (.ref f))
 fn:isFn K (.ref f)=true
 kp:keepIn K (.ref f)=true
section
variable{X:Cx}{pins:List (Addr×Obj)}{σ:St}{H:Hp}{s:Shared}{a C dx:Addr}{fs:List (Str×V)}{f:Str}{v:V}{A:Around}{E:Value→Shared→Prop}
theorem XE{b:Bool}{Q:Value→Shared→Prop}(I:Inv X pins σ H s)(e:H a=some (.ins C dx fs))(c:Cls X.K C)(n:NoAttr X.K C f)(l:fs.lookup f=some v)
  (h:∀u s',Inv X pins σ H s'→RelV v u→Q u s'):wpAny (model X.prog X.w) A (getAttr (.ref a) f b) Q E s:=by
 obtain⟨mA,O,r,_,_,_⟩:=Z2 I.hok e
 obtain⟨u,hu,ru⟩:=RelO.some_of (v:=v) (o:=mA f) (by rw[← l];exact r f)
 exact Gj I.kIn O (c.get f) c.hd n hu (Vz ru) (h u _ (I.tok _) ru)
theorem jz{m:Str}{g:Addr}{pl:Sem Bool}{Q:Value×List Value→Shared→Prop}(I:Inv X pins σ H s)(e:H a=some (.ins C dx fs))(c:Cls X.K C)(k:jU X.K C m g)(l:fs.lookup m=none)
  (h:Q (.ref g,[.ref a]) s):wpAny (model X.prog X.w) A (getMethod (.ref a) m pl) Q E s:=by
 obtain⟨mA,O,r,_,_,_⟩:=Z2 I.hok e
 have hn:mA m=none:=RelO.none_of (by rw[← l];exact r m)
 exact Ji I.kIn O (c.get m) k.at_ k.fn hn h
theorem Xj{y:V}{u:Value}{Q:Unit→Shared→Prop}(I:Inv X pins σ H s)(e:H a=some (.ins C dx fs))(c:Cls X.K C)(n:NoAttr X.K C f)(hl:fs.length<1000)(ry:RelV y u)
  (h:∀s',Inv X pins σ (upd H a (.ins C dx (xa f y fs))) s'→Q () s'):wpAny (model X.prog X.w) A (setAttr (.ref a) f u) Q E s:=by
 obtain⟨mA,O,r,wi,_,ho⟩:=Z2 I.hok e
 have hz:(fs.map (·.1)).length≤sizeLine:=by rw[length_map,sizeLine_eq];lia
 refine JV I.kIn O c.sa c.po n.taker c.hd wi hz fun h' O' sb=>h _ ?_
 have hd:∃o,h'.get? dx=some o:=let ⟨o,_,_,e',_⟩:=O'.ns;⟨o,e'⟩
 refine I.write (x:=a) (e:=dx) (by rw[e];exact True.intro) (.inr ho) (fun b q hb z=>(sb.2 b hb).trans z) hd ?_
 refine⟨by rw[zg O.ne];exact ho,?_,O.ne,O'.obj,_,O'.ns,fun g=>?_,fun g hg=>?_⟩
 ·have:=uB f y fs;lia
 ·show RelO ((xa f y fs).lookup g) (if g=f then some u else mA g)
  rw[uz]
  by_cases q:g=f
  ·rw[if_pos q,if_pos q];exact ry
  ·rw[if_neg q,if_neg q];exact r g
 ·by_cases q:g=f
  ·rw[q];exact(ul f y fs).1
  ·refine(ul f y fs).2 g (wi g fun z=>hg ?_)
   show(if g=f then some u else mA g)=none
   rw[if_neg q];exact z
theorem Inv.made(I:Inv X pins σ H s):Inv X pins σ (upd (upd H s.heap.objs.size (.own (s.heap.objs.size+1))) (s.heap.objs.size+1) (.ins C s.heap.objs.size []))
  { s with heap:=(s.heap.push emptyDict).push (instObj C s.heap.objs.size) }:=by
 have e1:(s.heap.push emptyDict).get? s.heap.objs.size=some emptyDict:=Heap.get?_push_size s.heap rfl
 have e2:((s.heap.push emptyDict).push (instObj C s.heap.objs.size)).get? (s.heap.objs.size+1)=some (instObj C s.heap.objs.size):=by
  have:=Heap.get?_push_size (s.heap.push emptyDict) (o:=instObj C s.heap.objs.size) rfl
  rwa [Heap.size_push] at this
 have e3:(s.heap.push emptyDict).Ns s.heap.objs.size (fun _=>none):=⟨emptyDict,#[],_,e1,rfl,(fun e he=>absurd he (by simp)),fun _=>rfl⟩
 have I1:=I.laid (a:=s.heap.objs.size) (o:=.own (s.heap.objs.size+1)) (h':=s.heap.push emptyDict) (t':=s.toks) (fun b u q=>get?_push_of_some _ q) (le_refl _) ⟨_,e1⟩
 refine I1.laid (a:=s.heap.objs.size+1) (o:=.ins C s.heap.objs.size []) (t':=s.toks) (fun b u q=>get?_push_of_some _ q) (Nat.le_of_eq (Heap.size_push _ _)) ?_
 have ne:s.heap.objs.size≠s.heap.objs.size+1:=ne_of_lt (lt_succ_self _)
 refine⟨by rw[zg ne,zk],zero_le _,ne,e2,fun _=>none,(Heap.Ns1.of_empty e3).at fun o q=>get?_push_of_some _ q,fun _=>True.intro,fun y hy=>absurd rfl hy⟩
theorem Gy{prog:Program}{w:World}{env:Env}{e:Expr}{f:Str}{pos:Pos}{s:Shared}{Q:Value→Shared→Prop}(hb:attributeBase e f env (eval e env)=eval e env)
  (h:wpAny (model prog w) A (eval e env) (fun o s₁=>wpAny (model prog w) A (getAttr o f true) Q E s₁) E s):wpAny (model prog w) A (eval (.Attribute e f pos) env) Q E s:=
 Attribute_any_ h (by rw[arm_eval_Attribute,hb])
end
noncomputable def tFld(K:Frag)(ta:TE)(f:Str):TE:=fun σ H Q=>ta σ H fun x H1=>∃a C dx fs v,x=.ref a∧H1 a=some (.ins C dx fs)∧Cls K C∧NoAttr K C f∧fs.lookup f=some v∧Q v H1
noncomputable def sFld(K:Frag)(ta tv:TE)(f:Str):TS:=fun D σ H=>tv σ H fun y H1=>ta σ H1 fun x H2=>∃a C dx fs,x=.ref a∧H2 a=some (.ins C dx fs)∧Cls K C∧NoAttr K C f∧fs.length<1000 ∧
 D.nx σ (upd H2 a (.ins C dx (xa f y fs)))
section
variable{X:Cx}{o e value:Expr}{f:Str}{pos pos' tpos:Pos}{ta tv:TE}
theorem Mu(he:PE X e ta)(hb:attributeBase e f X.env (eval e X.env)=eval e X.env):PE X (.Attribute e f pos) (tFld X.K ta f):=by
 intro pins s σ H Q I h
 refine Gy hb (thn (he pins s σ H _ I h) fun u s1 z_=>?_)
 obtain⟨x,H1,I1,rx,a,C,dx,fs,v,ex,ea,c,n,l,q⟩:=z_
 subst ex
 obtain rfl:u=Value.ref a:=rx
 exact XE I1 ea c n l fun u' s2 I2 ru=>⟨v,H1,I2,ru,q⟩
theorem Mg(ha:PE X o ta)(hv:PE X value tv)(hs:swapsWith value (some (.Attribute o f pos')) pos.line X.env=pure false):PS X (.Assign [.Attribute o f pos'] value pos) (sFld X.K ta tv f):=by
 intro pins s σ H D I h
 refine plainObj_wpAny_Assign_Attribute (thn (hv pins s σ H _ I h) fun u s1 ⟨y,H1,I1,ry,q⟩=>thn (ha pins s1 σ H1 _ I1 q) fun ov s2 z_=>?_) hs
 obtain⟨x,H2,I2,rx,a,C,dx,fs,ex,ea,c,n,l,q2⟩:=z_
 subst ex
 obtain rfl:ov=Value.ref a:=rx
 exact Xj I2 ea c n l ry fun s3 I3=>⟨σ,_,I3,q2⟩
end
section
variable{X:Cx}{pins:List (Addr×Obj)}{σ:St}{H:Hp}{s:Shared}{A:Around}{E:Value→Shared→Prop}{Q:Value→Shared→Prop}{c:Value}{b:Bool}
end
structure Room(k:Nat)(A:Around):Prop where
 hd:A.handled=none
 dp:A.depth+3*k+5<recursionLimit
 un:A.units+16*k+200<cLine
theorem Room.mono{j k:Nat}{A:Around}(r:Room k A)(h:j≤k):Room j A:=⟨r.hd,by have:=r.dp;lia,by have:=r.un;lia⟩
theorem Room.deeper{k:Nat}{A:Around}(r:Room (k+1) A)(env:Env):Room k (A.deeper env):=
 ⟨r.hd,by have:=r.dp;show A.depth+1+3*k+5<_;lia,by have:=r.un;show A.units+3+16*k+200<_;lia⟩
theorem Xx{A:Around}{C:Addr}{us:List Value}{kw:List (Str×Value)}:(A.under (.builtin "type.__call__" ⟨.ref C::us,kw⟩)).depth=A.depth+1:=by
 first|rfl|simp[Around.under,Code.weight,Code.isCreation,Code.isGuard,Code.isCaller,Code.frames,Code.isFrame,guardIds]
theorem Xw{A:Around}{C:Addr}{us:List Value}{kw:List (Str×Value)}:(A.under (.builtin "type.__call__" ⟨.ref C::us,kw⟩)).units=A.units+1:=by
 first|rfl|simp[Around.under,Code.cUnits,Code.frames,Code.isFrame]
theorem Room.make{k:Nat}{A:Around}(r:Room (k+1) A)(C:Addr)(us:List Value)(kw:List (Str×Value)):Room k (A.under (.builtin "type.__call__" ⟨.ref C::us,kw⟩)):=
 ⟨r.hd,by have:=r.dp;rw[Xx];lia,by have:=r.un;rw[Xw];lia⟩
theorem Room.depth{k:Nat}{A:Around}(r:Room k A):A.depth<recursionLimit:=by have:=r.dp;lia
theorem Room.units{k:Nat}{A:Around}(r:Room k A):A.units+64<cLine:=by have:=r.un;lia
noncomputable def G6:TA:=fun _ H Q=>Q [] H
noncomputable def tCons(ta:TE)(tr:TA):TA:=fun σ H Q=>ta σ H fun x H1=>tr σ H1 fun xs H2=>Q (x::xs) H2
section
variable{X:Cx}{e:Expr}{es:List Expr}{te:TE}{t:TA}{pos:Pos}
theorem jg:PA X [] G6:=fun _ _ _ _ H Q I h=>Calls.spliced_nil ⟨[],H,I,.nil,h⟩
theorem vH(ha:PE X e te)(hr:PA X es t)(hs:starEach (e::es) X.env=(false,eval e X.env)::starEach es X.env:=by rfl):PA X (e::es) (tCons te t):=by
 intro pos pins s σ H Q I h
 rw[hs]
 show wpAny _ _ (spliced ((false,eval e X.env)::backTo pos (starEach es X.env))) _ _ s
 refine Calls.spliced_cons (thn (ha pins s σ H _ I h) fun u s1 z_=>?_)
 obtain⟨x,H1,I1,r1,q1⟩:=z_
 exact thn (hr pos pins s1 σ H1 _ I1 q1) fun us s2 z_=>by obtain⟨xs,H2,I2,r2,q2⟩:=z_;exact⟨x::xs,H2,I2,.cons r1 r2,q2⟩
noncomputable def tTup(t:TA):TE:=fun σ H Q=>t σ H fun xs H1=>xs.length≤sizeLine∧∀p,H1 p=none→Q (.ref p) (upd H1 p (.tup xs))
noncomputable def tLst(t:TA):TE:=fun σ H Q=>t σ H fun xs H1=>xs.length≤sizeLine∧∀p,H1 p=none→Q (.ref p) (upd H1 p (.lst xs))
theorem Mp{x1}(h:PA X es t):PE X (.Tuple es x1 pos) (tTup t):=by
 intro pins s σ H Q I hq
 refine wpAny_Tuple_spliced (thn (h pos pins s σ H _ I hq) fun us s1 ⟨xs,H1,I1,r,z,q⟩=>⟨by rw[← r.length];exact z,?_⟩)
 have hf:H1 s1.heap.objs.size=none:=I1.hok.fresh (le_refl _)
 refine⟨.ref s1.heap.objs.size,upd H1 s1.heap.objs.size (.tup xs),I1.laid (t':=s1.toks) (fun b u e=>get?_push_of_some _ e) (le_refl _) ?_,rfl,q _ hf⟩
 exact⟨z,us,r,⟨_,Heap.get?_push_size _ rfl,rfl,_,rfl⟩⟩
theorem Ms(h:PA X es t):PE X (.List es pos) (tLst t):=by
 intro pins s σ H Q I hq
 refine wpAny_List_spliced (thn (h pos pins s σ H _ I hq) fun us s1 ⟨xs,H1,I1,r,z,q⟩=>⟨by rw[← r.length];exact z,?_⟩)
 have hf:H1 s1.heap.objs.size=none:=I1.hok.fresh (le_refl _)
 refine⟨.ref s1.heap.objs.size,upd H1 s1.heap.objs.size (.lst xs),I1.laid (t':=s1.toks) (fun b u e=>get?_push_of_some _ e) (le_refl _) ?_,rfl,q _ hf⟩
 exact⟨z,us,0,r,Heap.get?_push_size _ rfl⟩
end
noncomputable abbrev Sp:=List V→Hp→VK→XK→Prop
noncomputable abbrev CXT:=List Env→Hp→Shared→XK→Value→Shared→Prop
structure Env0(P:Program)(w:World)(K:Frag)(mg:Str→Option Value)(base:Heap)(A:Around)(outer:List Env)(s:Shared)(H:Hp):Prop where
 frames:A.frames=some outer
 mod:Mod K mg base
 bs:∀b o,base.get? b=some o→s.heap.get? b=some o∧H b=none
 bsz:base.objs.size≤s.heap.objs.size
 funs:s.heap.FunFrames base outer
 frf:∀b∈frs outer,H b=none
 hok:HOk P w H s.heap
 bare:AllBare s.gens
noncomputable def CE(outer:List Env)(P:Program)(w:World)(H:Hp)(s:Shared)(Q:VK)(u:Value)(s':Shared):Prop:=
 ∃v H',s'.os=s.os∧AllBare s'.gens∧Un (frs outer) [] H H' s.heap s'.heap∧HOk P w H' s'.heap∧RelV v u∧Q v H'
noncomputable def CR(CX:CXT)(outer:List Env)(P:Program)(w:World)(H:Hp)(s:Shared)(Q:VK)(E:XK)(r:Result)(s':Shared):Prop:=
 match r with
 | .ok (.ret u)=>CE outer P w H s Q u s'
 |.ok _=>False
 |.error e=>CX outer H s E e s'
structure FnOk(P:Program)(w:World)(K:Frag)(mg:Str→Option Value)(base:Heap)(CX:CXT)(k:Nat)(f:Addr)(fd:FuncData)(ps:List Str)(sp:Sp):Prop where
 len:∀vs H Q E,sp vs H Q E→vs.length=ps.length
 run:∀(A:Around) (outer:List Env) (s:Shared) (H:Hp) (args:Args) (us:List Value) (vs:List V) (Q:VK) (E:XK),Room k A→Env0 P w K mg base A outer s H→BindsTo s fd args (ps.zip us)→Vals vs us→sp vs H Q E →
  codeAny (model P w) A (.call (.ref f) args) (CR CX outer P w H s Q E) s
theorem FnOk.imp{P:Program}{w:World}{K:Frag}{mg:Str→Option Value}{base:Heap}{CX:CXT}{k:Nat}{f:Addr}{fd:FuncData}{ps:List Str}{sp sp':Sp}(F:FnOk P w K mg base CX k f fd ps sp)
  (h:∀vs H Q E,sp' vs H Q E→sp vs H Q E):FnOk P w K mg base CX k f fd ps sp':=
 ⟨fun vs H Q E q=>F.len vs H Q E (h _ _ _ _ q),fun A outer s H args us vs Q E hr he hb hv hs=>F.run A outer s H args us vs Q E hr he hb hv (h _ _ _ _ hs)⟩
theorem Env0.make{P:Program}{w:World}{K:Frag}{mg:Str→Option Value}{base:Heap}{A:Around}{outer:List Env}{s:Shared}{H:Hp}(e:Env0 P w K mg base A outer s H)(C:Addr)(us:List Value)(kw:List (Str×Value)) :
  Env0 P w K mg base (A.under (.builtin "type.__call__" ⟨.ref C::us,kw⟩)) outer s H:=⟨by first|exact e.frames | (simpa[Around.under,Code.envs,Code.isFrame,pushEnvs] using e.frames),e.mod,e.bs,e.bsz,e.funs,e.frf,e.hok,e.bare⟩
section
variable{X:Cx}{pins:List (Addr×Obj)}{σ:St}{H:Hp}{s s':Shared}
theorem Inv.env0(I:Inv X pins σ H s):Env0 X.prog X.w X.K X.mg X.base X.A X.stack s H:=
 ⟨I.ok.frames,I.ok.mod,I.bs,le_trans I.ok.bsz I.sz,I.stack,I.stkFree,I.hok,I.bare⟩
theorem Inv.after{Q:VK}{u:Value}(I:Inv X pins σ H s)(h:CE X.stack X.prog X.w H s Q u s'):EP X pins σ Q u s':=by
 obtain⟨v,H',os,bare,un,hok,r,q⟩:=h
 obtain⟨hh,g,d,t,os'⟩:=s'
 obtain rfl:os'=s.os:=os
 exact⟨v,H',I.call (h':=hh) (g':=g) (d':=d) (t':=t) (ch:=[]) un hok bare (fun b z=>absurd z (by simp)),r,q⟩
end
noncomputable def tCall(sp:Sp)(dvs:List V)(E:XK)(t:TA):TE:=fun σ H Q=>t σ H fun vs H1=>sp (vs++dvs) H1 Q E
noncomputable def XX(C:Addr)(m:Str)(sp:Sp)(dvs:List V)(E:XK)(ta:TE)(t:TA):TE:=fun σ H Q=>ta σ H fun x H1=>∃a dx fs,x=.ref a∧H1 a=some (.ins C dx fs)∧fs.lookup m=none ∧
 t σ H1 fun vs H2=>sp (x::(vs++dvs)) H2 Q E
noncomputable def GG(C:Addr)(sp:Sp)(dvs:List V)(E:XK)(t:TA):TE:=fun σ H Q=>t σ H fun vs H1=>∀x dx,H1 x=none→H1 dx=none→dx≠x →
 sp (.ref x::(vs++dvs)) (upd (upd H1 dx (.own x)) x (.ins C dx [])) (fun v H2=>v=.non∧Q (.ref x) H2) E
noncomputable def Binds(K:Frag)(fd:FuncData)(ps:List Str)(ds:List Value):Prop:=
 ∀(s:Shared) (us:List Value),K.In s.heap→(us++ds).length=ps.length→BindsTo s fd ⟨us,[]⟩ (ps.zip (us++ds))
theorem Binds.all{K:Frag}{fd:FuncData}{ps:List Str}(h:∀us:List Value,us.length=ps.length→bindArgs fd ⟨us,[]⟩=pure (ps.zip us)):Binds K fd ps []:=fun s us _ hl=>by
 rw[append_nil] at hl ⊢
 exact .of_eq (h us hl)
noncomputable def vp(CX:CXT)(X:Cx)(E:XK):Prop:=∀(pins:List (Addr×Obj)) (σ:St) (H:Hp) (s:Shared) (e:Value) (s':Shared),Inv X pins σ H s→CX X.stack H s E e s'→X.xe e s'
section
variable{X:Cx}{CX:CXT}{k:Nat}{f C:Addr}{fd:FuncData}{ps:List Str}{sp:Sp}{dvs:List V}{ds:List Value}{E:XK}{x m:Str}{p pos apos:Pos}{e o:Expr}{es:List Expr}{ta:TE}{t:TA}
theorem Xl{pins:List (Addr×Obj)}{σ:St}{H:Hp}{s:Shared}{Q:VK}{us:List Value}{vs:List V}(F:FnOk X.prog X.w X.K X.mg X.base CX k f fd ps sp)(hr:Room k X.A)(hb:Binds X.K fd ps ds)(hd:Vals dvs ds)(hx:vp CX X E)
  (I:Inv X pins σ H s) (r:Vals vs us) (h:sp (vs++dvs) H Q E):wpAny (model X.prog X.w) X.A (call (.ref f) us) (EP X pins σ Q) X.xe s:=by
 have r2:Vals (vs++dvs) (us++ds):=r.append hd
 have hl:(us++ds).length=ps.length:=by rw[← r2.length];exact F.len _ _ _ _ h
 refine wpAny_call (codeAny_mono (F.run X.A X.stack s H ⟨us,[]⟩ (us++ds) (vs++dvs) Q E hr I.env0 (hb s us I.kIn hl) r2 h) fun r s' hq=>?_)
 cases r with
 |error e=>exact hx pins σ H s e s' I hq
 |ok fl=>
  cases fl with
  |ret u=>exact I.after hq
  |next=>exact False.elim hq
  |brk=>exact False.elim hq
  |cont=>exact False.elim hq
theorem Qo(F:FnOk X.prog X.w X.K X.mg X.base CX k f fd ps sp)(hr:Room k X.A)(hg:Gl X x)(hm:X.mg x=some (.ref f))(hk:keepIn X.K (.ref f)=true)(hb:Binds X.K fd ps ds)(hd:Vals dvs ds)(hx:vp CX X E)
  (ha:PA X (e::es) t) (hdb:(x==("__debug__" : Str))=false:=by decide) (he:starEach (e::es) X.env=(false,eval e X.env)::starEach es X.env:=by rfl) (hpl:(backTo pos (starEach es X.env)).any (·.1)=false:=by rfl) :
  PE X (.Call (.Name x p) (e::es) [] pos) (tCall sp dvs E t):=by
 intro pins s σ H Q I h
 refine wpAny_Call_Name_kw (ZZ I hg hm ?_ hdb)
 refine callWith_K (h₀:=X.base) I.ok.mod.kin hk (thn (ha pos pins s σ H _ I h) fun us s1 ⟨vs,H1,I1,r,q⟩=>⟨I1.kIn,?_⟩) he hpl
 exact Xl F hr hb hd hx I1 r q
theorem Wi{pl:Sem Bool}(he:PE X o ta)(c:Cls X.K C)(hm:jU X.K C m f)(F:FnOk X.prog X.w X.K X.mg X.base CX k f fd ps sp)(hr:Room k X.A)(hb:Binds X.K fd ps ds)(hd:Vals dvs ds)(hx:vp CX X E)(ha:PA X (e::es) t)
  (hst:starEach (e::es) X.env=(false,eval e X.env)::starEach es X.env:=by rfl) (hpl:(backTo pos (starEach es X.env)).any (·.1)=false:=by rfl)
  (ht:eval (.Call (.Attribute o m apos) (e::es) [] pos) X.env=(do
   let ov ← eval o X.env
   standAt apos.atName
   let (f,first) ← holding [ov] (getMethod ov m pl)
   callWith pos f first (backTo pos (starEach (e::es) X.env)) (backToKw pos (keywordEach [] X.env))):=by rfl) :
  PE X (.Call (.Attribute o m apos) (e::es) [] pos) (XX C m sp dvs E ta t):=by
 intro pins s σ H Q I h
 refine PySem.W.methodCall_KW (pl:=pl) (thn (he pins s σ H _ I h) fun u s1 z_=>?_) ht
 obtain⟨x,H1,I1,rx,a,dx,fs,ex,ea,l,q⟩:=z_
 subst ex
 obtain rfl:u=Value.ref a:=rx
 refine jz I1 ea c hm l ?_
 refine callWith_K (first:=[.ref a]) (h₀:=X.base) I.ok.mod.kin hm.kp (thn (ha pos pins s1 σ H1 _ I1 q) fun us s2 ⟨vs,H2,I2,r,q2⟩=>⟨I2.kIn,?_⟩) hst hpl
 exact Xl (us:=.ref a::us) (vs:=.ref a::vs) F hr hb hd hx I2 (.cons rfl r) q2
theorem Up{pl:Sem Bool}(he:PE X o ta)(c:Cls X.K C)(hm:jU X.K C m f)(F:FnOk X.prog X.w X.K X.mg X.base CX k f fd ps sp)(hr:Room k X.A)(hb:Binds X.K fd ps ds)(hd:Vals dvs ds)(hx:vp CX X E)
  (ht:eval (.Call (.Attribute o m apos) [] [] pos) X.env=(do
   let ov ← eval o X.env
   standAt apos.atName
   let (f,first) ← holding [ov] (getMethod ov m pl)
   callWith pos f first (backTo pos (starEach [] X.env)) (backToKw pos (keywordEach [] X.env))):=by rfl) :
  PE X (.Call (.Attribute o m apos) [] [] pos) (XX C m sp dvs E ta G6):=by
 intro pins s σ H Q I h
 refine PySem.W.methodCall_KW (pl:=pl) (thn (he pins s σ H _ I h) fun u s1 z_=>?_) ht
 obtain⟨x,H1,I1,rx,a,dx,fs,ex,ea,l,q⟩:=z_
 subst ex
 obtain rfl:u=Value.ref a:=rx
 refine jz I1 ea c hm l ?_
 exact PySem.W.callWith_K0 (first:=[.ref a]) I1.kIn hm.kp (Xl (us:=[.ref a]) (vs:=[.ref a]) F hr hb hd hx I1 (.cons rfl .nil) q)
structure Mk(K:Frag)(C f:Addr):Prop where
 makes:makesIn K C=true
 init:findIn K (.ref C) "__init__" = some (some (.ref f))
 fn:isFn K (.ref f)=true
 kp:keepIn K (.ref C)=true
theorem Uc{pins:List (Addr×Obj)}{σ:St}{H:Hp}{s:Shared}{Q:VK}{us:List Value}{vs:List V}(M:Mk X.K C f)(F:FnOk X.prog X.w X.K X.mg X.base CX k f fd ps sp)(hr:Room (k+1) X.A)(hb:Binds X.K fd ps ds)(hd:Vals dvs ds)
  (hx:vp CX X E) (I:Inv X pins σ H s) (r:Vals vs us)
  (h:∀x dx,H x=none→H dx=none→dx≠x→sp (.ref x::(vs++dvs)) (upd (upd H dx (.own x)) x (.ins C dx [])) (fun v H2=>v=.non∧Q (.ref x) H2) E) :
  wpAny (model X.prog X.w) X.A (call (.ref C) us) (EP X pins σ Q) X.xe s:=by
 have hq:=h (s.heap.objs.size+1) s.heap.objs.size (I.hok.fresh (le_succ _)) (I.hok.fresh (le_refl _)) (ne_of_lt (lt_succ_self _))
 have I2:=Inv.made (C:=C) I
 have r2:Vals (V.ref (s.heap.objs.size+1)::(vs++dvs)) (Value.ref (s.heap.objs.size+1)::(us++ds)):=.cons rfl (r.append hd)
 have hl:(Value.ref (s.heap.objs.size+1)::us++ds).length=ps.length:=by
  have e:=r2.length
  rw[F.len _ _ _ _ hq] at e
  exact e.symm
 refine wpAny_call (UV (f:=f) I.kIn M.makes M.init (beq_iff_eq.mp M.fn) (codeAny_mono (F.run _ X.stack _ _ ⟨Value.ref (s.heap.objs.size+1)::us,[]⟩ (Value.ref (s.heap.objs.size+1)::(us++ds)) _ _ E (hr.make C us [])
  (I2.env0.make C us []) (hb _ (Value.ref (s.heap.objs.size+1)::us) I2.kIn hl) r2 hq) fun r s' hq'=>?_))
 cases r with
 |error e=>exact hx pins σ _ _ e s' I2 hq'
 |ok fl=>
  cases fl with
  |ret u=>
   obtain⟨v,H',I3,rv,ev,q3⟩:=I2.after hq'
   subst ev
   exact⟨rv,⟨V.ref (s.heap.objs.size+1),H',I3,rfl,q3⟩⟩
  |next=>exact False.elim hq'
  |brk=>exact False.elim hq'
  |cont=>exact False.elim hq'
theorem Qj(M:Mk X.K C f)(F:FnOk X.prog X.w X.K X.mg X.base CX k f fd ps sp)(hr:Room (k+1) X.A)(hg:Gl X x)(hm:X.mg x=some (.ref C))(hb:Binds X.K fd ps ds)(hd:Vals dvs ds)(hx:vp CX X E)
  (ha:PA X (e::es) t) (hdb:(x==("__debug__" : Str))=false:=by decide) (he:starEach (e::es) X.env=(false,eval e X.env)::starEach es X.env:=by rfl) (hpl:(backTo pos (starEach es X.env)).any (·.1)=false:=by rfl) :
  PE X (.Call (.Name x p) (e::es) [] pos) (GG C sp dvs E t):=by
 intro pins s σ H Q I h
 refine wpAny_Call_Name_kw (ZZ I hg hm ?_ hdb)
 refine callWith_K (h₀:=X.base) I.ok.mod.kin M.kp (thn (ha pos pins s σ H _ I h) fun us s1 ⟨vs,H1,I1,r,q⟩=>⟨I1.kIn,?_⟩) he hpl
 exact Uc M F hr hb hd hx I1 r q
end
section
variable{X:Cx}{CX:CXT}{k:Nat}{f C:Addr}{fd:FuncData}{ps ks:List Str}{sp:Sp}{E:XK}{x m:Str}{p pos apos kpos:Pos}{e o:Expr}{es:List Expr}{kws:List Keyword}{te ta:TE}{t tk:TA}{nm:Option Str}
variable{g:List Value→List Value→List Value}{gV:List V→List V→List V}
end
structure zL(N P:List Str)(sc:Scope):Prop where
 kind:sc.kind=.function
 co:sc.isCoroutine=false
 gen:sc.isGenerator=false
 nd:N.Nodup
 pre:N.take P.length=P
 par:∀x∈P,sc.names.lookup x=some .local∨sc.names.lookup x=some .cell
 nofree:∀y∈sc.names,y.2≠.free
theorem Zr{kindOf:Str→Option NameKind}{x:Str}:∀{binds:List (Str×Value)} {m:Str→Option Value},(∀v,(x,v)∉binds)→bindL kindOf binds m x=m x
 |[],_,_=>rfl
 | (n,v)::r,m,h=>by
  unfold bindL
  rw[Zr fun w hw=>h w (mem_cons_of_mem _ hw)]
  split
  ·have:x≠n:=by rintro rfl;exact h v mem_cons_self
   simp[this]
  ·rfl
theorem Zt{kindOf:Str→Option NameKind}{x:Str}:∀{binds:List (Str×Value)} {m:Str→Option Value},(∀v,(x,v)∉binds)→bindC kindOf binds m x=m x
 |[],_,_=>rfl
 | (n,v)::r,m,h=>by
  unfold bindC
  rw[Zt fun w hw=>h w (mem_cons_of_mem _ hw)]
  split
  ·rfl
  ·have:x≠n:=by rintro rfl;exact h v mem_cons_self
   simp[this]
theorem Zs{kindOf:Str→Option NameKind}{x:Str}{v:Value}:∀{P:List Str} {vs:List Value} {i:Nat} {m:Str→Option Value},P.Nodup→P[i]?=some x→vs[i]?=some v→kindOf x=some .local →
  bindL kindOf (P.zip vs) m x=some v
 |[],_,_,_,_,h,_,_=>by simp at h
 |_::_,[],_,_,_,_,h,_=>by simp at h
 |p::P,w::vs,0,m,nd,h1,h2,hk=>by
  simp at h1 h2;subst h1;subst h2
  show bindL kindOf ((p,w)::P.zip vs) m p=_
  unfold bindL
  rw[Zr fun v hv=>(nodup_cons.mp nd).1 (List.of_mem_zip hv).1,if_pos hk]
  simp
 |p::P,w::vs,i+1,m,nd,h1,h2,hk=>by
  show bindL kindOf ((p,w)::P.zip vs) m x=_
  unfold bindL
  exact Zs (i:=i) (nodup_cons.mp nd).2 (by simpa using h1) (by simpa using h2) hk
theorem Zu{kindOf:Str→Option NameKind}{x:Str}{v:Value}:∀{P:List Str} {vs:List Value} {i:Nat} {m:Str→Option Value},P.Nodup→P[i]?=some x→vs[i]?=some v→kindOf x≠some .local →
  bindC kindOf (P.zip vs) m x=some v
 |[],_,_,_,_,h,_,_=>by simp at h
 |_::_,[],_,_,_,_,h,_=>by simp at h
 |p::P,w::vs,0,m,nd,h1,h2,hk=>by
  simp at h1 h2;subst h1;subst h2
  show bindC kindOf ((p,w)::P.zip vs) m p=_
  unfold bindC
  rw[Zt fun v hv=>(nodup_cons.mp nd).1 (List.of_mem_zip hv).1,if_neg hk]
  simp
 |p::P,w::vs,i+1,m,nd,h1,h2,hk=>by
  show bindC kindOf ((p,w)::P.zip vs) m x=_
  unfold bindC
  exact Zu (i:=i) (nodup_cons.mp nd).2 (by simpa using h1) (by simpa using h2) hk
noncomputable def start(N:List Str)(vs:List V):St:=vs.map some++List.replicate (N.length-vs.length) none
noncomputable def ut(CX:CXT)(P:Program)(w:World)(K:Frag)(mg:Str→Option Value)(base:Heap)(N:List Str)(qual:Str)(scope:Scope)(f:Addr)(cd:Value)(A:Around)(outer:List Env)(s:Shared)(H:Hp)(E:XK):Cx where
 prog:=P
 w:=w
 K:=K
 mg:=mg
 base:=base
 A:=A.deeper (envOfC qual scope s.heap.objs.size f cd)
 N:=N
 s₀:=s
 H₀:=H
 env:=envOfC qual scope s.heap.objs.size f cd
 outer:=outer
 stack:=envOfC qual scope s.heap.objs.size f cd::outer
 ex:=[]
 calm:=true
 fn:=fun _=>true
 pn:=[]
 xe:=fun e s'=>wpAny (model P w) (A.deeper (envOfC qual scope s.heap.objs.size f cd)) (leaving (envOfC qual scope s.heap.objs.size f cd) e) (fun _ s''=>CX outer H s E e s'') (fun e' s''=>CX outer H s E e' s'') s'
theorem Y7{sc:Scope}{n:Nat}{x:Str}(h:sc.names.lookup x=some .cell):∃c,(cellsFrom n sc.names []).lookup x=some c:=by
 have q:=cellsFrom_some sc.names n [] (.inl h)
 exact Option.isSome_iff_exists.mp q
theorem Vv{CX:CXT}{P:Program}{w:World}{K:Frag}{mg:Str→Option Value}{base:Heap}{N ps:List Str}{qual:Str}{scope:Scope}{f:Addr}{cd:Value}{A:Around}{outer:List Env}{s s1:Shared}{H:Hp}{E:XK}{us:List Value}{vs:List V}
  (S:zL N ps scope) (hd:A.handled=none) (e0:Env0 P w K mg base A outer s H) (hl:vs.length=ps.length) (r:Vals vs us)
  (x:InCallC s s.heap.objs.size (bindL (envOfC qual scope s.heap.objs.size f cd).kindOf (ps.zip us) fun _=>none) (cellsFrom (s.heap.objs.size+1) scope.names []) (bindC (envOfC qual scope s.heap.objs.size f cd).kindOf (ps.zip us) fun _=>none) s1) :
  Inv (ut CX P w K mg base N qual scope f cd A outer s H E) [] (start N vs) H s1:=by
 have hpl:ps.length≤N.length:=by have:=congrArg List.length S.pre;rw[List.length_take] at this;lia
 obtain⟨h1,tk,rfl,hk⟩:=x.done
 have noA:∀b:Addr,b∉(ut CX P w K mg base N qual scope f cd A outer s H E).ex:=fun b z=>absurd (show b∈([]:List Addr) from z) (by simp)
 refine⟨⟨e0.mod,S.kind,rfl,rfl,le_refl _,fun y z c h1 h2=>?_,fun y hy=>?_,fun y c _ h=>?_,fun _=>hd,Around.frames_deeper e0.frames,.inr ⟨rfl,rfl⟩,fun b z=>absurd z (noA b),e0.bs,e0.bsz,fun b _ _=>noA b,fun b z=>absurd z (noA b),e0.funs,e0.frf⟩,
  rfl,e0.bare,Un.kept hk,⟨_,x.toInCall.ns,fun i y v h1 h2 h3=>?_⟩,fun y c h=>⟨_,x.cell y c h⟩,e0.hok.fresh (le_refl _),fun y c h=>?_,fun p hp=>absurd (show p∈([]:List (Addr×Obj)) from hp) (by simp),e0.hok.kept hk,?_⟩
 ·exact name_of_addr x.apart (PySem.mem_of_lookup h1) (PySem.mem_of_lookup h2)
 ·have hy:scope.names.lookup y=some .cell∨scope.names.lookup y=some .free:=hy
  rcases hy with hy|hy
  ·exact Y7 hy
  ·exact absurd rfl (S.nofree _ (PySem.mem_of_lookup hy))
 ·exact le_of_lt (x.above y c (PySem.mem_of_lookup h))
 ·have hi:i<vs.length:=by
   unfold start at h2
   by_cases hi:i<vs.length
   ·exact hi
   ·rw[getElem?_append_right (by simpa using hi)] at h2
    rw[getElem?_replicate] at h2
    split at h2 <;> cases h2
  have ha:vs[i]?=some v:=by
   unfold start at h2
   rw[getElem?_append_left (by simpa using hi),getElem?_map] at h2
   cases e:vs[i]? with
   |none=>rw[e] at h2;cases h2
   |some a=>rw[e] at h2;cases h2;rfl
  obtain⟨u,hu,rv⟩:=r.get ha
  have hp:ps[i]?=some y:=by
   rw[← S.pre,List.getElem?_take_of_lt (by lia)];exact h1
  have ndP:ps.Nodup:=by rw[← S.pre];exact S.nd.sublist (List.take_sublist _ _)
  refine⟨u,rv,?_⟩
  rcases S.par y (List.mem_of_getElem? hp) with k|k
  ·exact .inl ⟨k,Zs ndP hp hu k⟩
  ·obtain⟨c,e⟩:=Y7 (n:=s.heap.objs.size+1) k
   refine .inr ⟨.inl k,c,e,?_⟩
   have q:=x.cell y c e
   rw[Zu ndP hp hu (by show scope.names.lookup y≠_;rw[k];decide)] at q
   exact q
 ·exact e0.hok.fresh (le_of_lt (x.above y c (PySem.mem_of_lookup h)))
 ·unfold start
  show _=N.length
  rw[length_append,length_map,List.length_replicate]
  lia
theorem fn_of{CX:CXT}{P:Program}{w:World}{K:Frag}{mg:Str→Option Value}{base:Heap}{k:Nat}{f:Addr}{name qual:Str}{params:Arguments}{body:List Stmt}{scope:Scope}{dV kV doc pm cdv ct oc:Value}{an od:Option Addr}
  {osl:Array (Option Value)} {N ps:List Str} {sp:Sp} (lk:K.lookup f=some ⟨oc,od,.func (fnOf name qual params body scope dV kV doc pm an cdv ct),osl⟩) (hcd:codeIn K cdv qual=true) (S:zL N ps scope)
  (len:∀vs H Q E,sp vs H Q E→vs.length=ps.length)
  (hbody:∀(A:Around) (outer:List Env) (s:Shared) (H:Hp) (vs:List V) (Q:VK) (E:XK),Room k (A.deeper (envOfC qual scope s.heap.objs.size f cdv))→sp vs H Q E →
   ∃t,PSs (ut CX P w K mg base N qual scope f cdv A outer s H E) body t∧t { nx:=fun _ H'=>Q .non H',rt:=Q } (start N vs) H) :
  FnOk P w K mg base CX (k+1) f (fnOf name qual params body scope dV kV doc pm an cdv ct) ps sp:=by
 refine⟨len,fun A outer s H args us vs Q E hr e0 hb r hsp=>?_⟩
 have hl:=len _ _ _ _ hsp
 have KX:K.In s.heap:=e0.mod.kin.keeps fun b o e=>(e0.bs b o e).1
 have lim:s.heap.NoLimit:=e0.mod.nolimit.keeps fun b o e=>(e0.bs b o e).1
 have hkind:∀y∈ps.zip us,scope.names.lookup y.1=some .local∨(scope.names.lookup y.1=some .cell∧((cellsFrom (s.heap.objs.size+1) scope.names []).lookup y.1).isSome=true):=fun ⟨n,v⟩ hy=>by
  rcases S.par n (List.of_mem_zip hy).1 with q|q
  ·exact .inl q
  ·exact .inr ⟨q,cellsFrom_some _ _ _ (.inl q)⟩
 refine codeAny_call_function hr.depth (KX _ _ lk) rfl S.co S.gen rfl (PySem.W.codeRec_of KX hcd) (hb _ _ _ _ ?_)
 refine wpAny_newFunctionEnv_cells S.kind hkind fun env he s1 x=>?_
 subst he
 refine⟨lim.keeps x.toInCall.keep,codeAny_func ?_⟩
 obtain⟨t,ht,hq⟩:=hbody A outer s H vs Q E (hr.deeper _) hsp
 have I:Inv (ut CX P w K mg base N qual scope f cdv A outer s H E) [] (start N vs) H s1:=Vv S hr.hd e0 hl r x
 refine wpAny_mono (ht [] s1 (start N vs) H _ I hq) (fun fl s' hs=>?_) fun e s' hs=>hs
 have fin:∀{σ':St} {H':Hp} {v:V} {u:Value},Inv (ut CX P w K mg base N qual scope f cdv A outer s H E) [] σ' H' s'→RelV v u→Q v H'→CE outer P w H s Q u s':=
  fun {σ' H' v u} J rv q=>⟨v,H',J.os,J.bare,J.base,J.hok,rv,q⟩
 cases fl with
 |ret u=>
  obtain⟨v,σ',H',J,rv,q⟩:=hs
  exact fin J rv q
 |next=>
  obtain⟨σ',H',J,q⟩:=hs
  exact fin (v:=V.non) (u:=Value.none) J rfl q
 |brk=>
  obtain⟨_,_,_,q⟩:=hs
  exact False.elim q
 |cont=>
  obtain⟨_,_,_,q⟩:=hs
  exact False.elim q
section
variable{X:Cx}{x:Str}{p pos:Pos}{e:Expr}{es:List Expr}{t:TA}{id T:String}{r:List V→Hp→VK→Prop}
noncomputable def tCB(r:List V→Hp→VK→Prop)(t:TA):TE:=fun σ H Q=>t σ H fun vs H1=>r vs H1 Q
theorem pe_callB(hc:CallR X (.builtin id) r)(hg:Gl X x)(hm:X.mg x=none)(hv:bootBuiltins x=some (.builtin id))(ha:PA X (e::es) t)(hn:x ≠ "__name__" := by decide)(hdb:(x==("__debug__" : Str))=false:=by decide)
  (he:starEach (e::es) X.env=(false,eval e X.env)::starEach es X.env:=by rfl) (hpl:(backTo pos (starEach es X.env)).any (·.1)=false:=by rfl):PE X (.Call (.Name x p) (e::es) [] pos) (tCB r t):=by
 intro pins s σ H Q I h
 refine wpAny_Call_Name_kw (uk I hg hm hv ?_ hn hdb)
 exact PyProof.Rows.callWith_builtin1 (thn (ha pos pins s σ H _ I h) fun us s1 ⟨vs,H1,I1,r1,q1⟩=>hc pins s1 σ H1 vs us Q I1 r1 q1) he hpl
end
end L2
namespace HT
open PySem PyProof.Rows
section
open PySem.SeqAt
open PySem.AutoSeq1 (wpAny_loadPart')
open PySem.MeetsSeq PySem.MeetsSeq2 PySem.MeetsSeq3
end
section
variable{prog:Program}{w:World}{A:Around}{E:Value→Shared→Prop}{s:Shared}
noncomputable def sIx(n d:Nat):Option Int→Nat
 |none=>d
 |some v=>if v<0 then (v+(n:Int)).toNat else min v.toNat n
end
end HT
namespace L2
open PySem PySem.Spec PyProof.Rows
noncomputable abbrev TO:=St→Hp→(Option Int→Hp→Prop)→Prop
noncomputable def PO(X:Cx)(e:Option Expr)(t:TO):Prop:=
 ∀(pins:List (Addr×Obj)) (s:Shared) (σ:St) (H:Hp) (Q:Option Int→Hp→Prop),Inv X pins σ H s→t σ H Q →
  wpAny (model X.prog X.w) X.A (evalPart e X.env) (fun u s'=>∃o H',Inv X pins σ H' s'∧IsPart u o∧Q o H') X.xe s
noncomputable def tPart(t:TE):TO:=fun σ H Q=>t σ H fun x H1=>∃i,x=.int i∧Q (some i) H1
section
variable{X:Cx}{e:Expr}{te:TE}{lo hi:Option Expr}{tl th:TO}{pos p2:Pos}
theorem Qg(h:PE X e te):PO X (some e) (tPart te):=by
 intro pins s σ H Q I hw
 rw[evalPart_some]
 refine thn (h pins s σ H _ I hw) fun u s1 z_=>?_
 obtain⟨x,H1,I1,r1,q1⟩:=z_
 obtain⟨i,rfl,q⟩:=q1
 obtain⟨t,rfl⟩:=r1
 exact⟨some i,H1,I1,.int i t,q⟩
noncomputable def SlR(X:Cx)(r:V→Option Int→Option Int→Hp→VK→Prop):Prop:=
 ∀(pins:List (Addr×Obj)) (s:Shared) (σ:St) (H:Hp) (x:V) (v vl vu:Value) (lo hi:Option Int) (sl:Addr) (Q:VK),Inv X pins σ H s→RelV x v→s.heap.IsSliceOf sl vl vu .none→IsPart vl lo→IsPart vu hi→r x lo hi H Q →
  ∃T id,typeLookup (.type T) "__getitem__" = pure (some (.builtin id))∧s.TypeIs v T∧wpAny (model X.prog X.w) X.A (getItem v (.ref sl)) (EP X pins σ Q) X.xe s
theorem SlR.or{r r':V→Option Int→Option Int→Hp→VK→Prop}(h:SlR X r)(h':SlR X r'):SlR X (fun x lo hi H Q=>r x lo hi H Q∨r' x lo hi H Q):=by
 intro pins s σ H x v vl vu lo hi sl Q I rx hs pl pu q
 rcases q with q|q
 ·exact h pins s σ H x v vl vu lo hi sl Q I rx hs pl pu q
 ·exact h' pins s σ H x v vl vu lo hi sl Q I rx hs pl pu q
noncomputable def tSl(r:V→Option Int→Option Int→Hp→VK→Prop)(te:TE)(tl th:TO):TE:=fun σ H Q=>te σ H fun x H1=>tl σ H1 fun l H2=>th σ H2 fun u H3=>r x l u H3 Q
theorem Uo{r:V→Option Int→Option Int→Hp→VK→Prop}(hr:SlR X r)(he:PE X e te)(hl:PO X lo tl)(hu:PO X hi th):PE X (.Subscript e (.Slice lo hi none p2) pos) (tSl r te tl th):=by
 intro pins s σ H Q I h
 refine Subscript_ (thn (he pins s σ H _ I h) fun v s1 z_=>?_)
 obtain⟨x,H1,I1,r1,q1⟩:=z_
 refine wpAny_Slice (thn (hl pins s1 σ H1 _ I1 q1) fun vl s2 ⟨l,H2,I2,pl,q2⟩=>thn (hu pins s2 σ H2 _ I2 q2) fun vu s3 z_=>?_)
 obtain⟨u,H3,I3,pu,q3⟩:=z_
 rw[evalPart_none]
 refine wpAny_pure ?_
 have I4:Inv X pins σ H3 { s3 with heap:=s3.heap.push { cls:=.type "slice", data:=.fields #[vl,vu,.none] } }:=I3.kept (t':=s3.toks) fun b ob q=>get?_push_of_some _ q
 obtain⟨T,id,hT,ht,hg⟩:=hr pins { s3 with heap:=s3.heap.push { cls:=.type "slice", data:=.fields #[vl,vu,.none] } } σ H3 x v vl vu l u s3.heap.objs.size Q I4 r1 (Heap.IsSliceOf.new ..) pl pu q3
 show wpAny (model X.prog X.w) X.A (subscriptTail e (.Slice lo hi none p2) v (.ref s3.heap.objs.size)) (EP X pins σ Q) X.xe { s3 with heap:=s3.heap.push { cls:=.type "slice", data:=.fields #[vl,vu,.none] } }
 exact tail_any (ops:=[.ref s3.heap.objs.size,v]) ht hT hg (by with_unfolding_all rfl)
noncomputable def VJ(xs:List V)(lo hi:Option Int):List V:=(xs.drop (HT.sIx xs.length 0 lo)).take (HT.sIx xs.length xs.length hi-HT.sIx xs.length 0 lo)
theorem Y5(xs:List V)(lo hi:Option Int):(VJ xs lo hi).length≤xs.length:=by
 unfold VJ
 rw[List.length_take,List.length_drop]
 lia
end
noncomputable def ixN(n:Nat)(i:Int):Option Nat:=if 0≤i then (if i<n then some i.toNat else none) else if -(n:Int)≤i then some (i+n).toNat else none
noncomputable def atI{α:Type}(xs:List α)(i:Int):Option α:=(ixN xs.length i).bind fun j=>xs[j]?
theorem WF{n:Nat}{i:Int}{j:Nat}(h:ixN n i=some j):seqIndex? i n=some j∧j<n∧-(n:Int)≤i∧i<n:=by
 unfold ixN at h
 by_cases h0:0≤i
 ·rw[if_pos h0] at h
  by_cases h1:i<n
  ·rw[if_pos h1] at h
   have e:i.toNat=j:=Option.some.inj h
   exact⟨by rw[seqIndex_of h0 h1,e],by lia,by lia,h1⟩
  ·rw[if_neg h1] at h;cases h
 ·rw[if_neg h0] at h
  by_cases h1 : -(n:Int)≤i
  ·rw[if_pos h1] at h
   have e:(i+n).toNat=j:=Option.some.inj h
   exact⟨by rw[seqIndex_neg (by lia) h1,e],by lia,h1,by lia⟩
  ·rw[if_neg h1] at h;cases h
theorem Z9{α:Type}{xs:List α}{i:Int}{v:α}(h:atI xs i=some v):∃j,seqIndex? i xs.length=some j∧xs[j]?=some v∧j<xs.length∧-(xs.length:Int)≤i∧i<xs.length:=by
 unfold atI at h
 cases e:ixN xs.length i with
 |none=>rw[e] at h;cases h
 |some j=>
  rw[e] at h
  obtain⟨h1,h2,h3,h4⟩:=WF e
  exact⟨j,h1,h,h2,h3,h4⟩
theorem WV{α:Type}{xs:List α}{j:Nat}{v:α}(h:xs[j]?=some v):atI xs (j:Int)=some v:=by
 have hj:j<xs.length:=(List.getElem?_eq_some_iff.mp h).1
 have e:ixN xs.length (j:Int)=some j:=by
  unfold ixN
  rw[if_pos (by lia),if_pos (by lia)];simp
 unfold atI;rw[e];exact h
noncomputable def Ya(b:Expr):Prop:=∀o i,subscripted b false o i=operate [o,i] (getItem o i)
noncomputable def IxR(X:Cx)(r:R2):Prop:=
 ∀(value slice:Expr) (pins:List (Addr×Obj)) (s:Shared) (σ:St) (H:Hp) (x y:V) (v u:Value) (Q:VK),Inv X pins σ H s→RelV x v→RelV y u→r x y H Q →
  subscripted slice false v u=operate [v,u] (getItem v u)→wpAny (model X.prog X.w) X.A (subscriptTail value slice v u) (EP X pins σ Q) X.xe s
noncomputable def MtR(X:Cx)(id:String)(r:V→List V→Hp→VK→Prop):Prop:=
 ∀(pins:List (Addr×Obj)) (s:Shared) (σ:St) (H:Hp) (x:V) (xs:List V) (v:Value) (us:List Value) (Q:VK),Inv X pins σ H s→RelV x v→Vals xs us→r x xs H Q →
  wpAny (model X.prog X.w) X.A (call (.builtin id) (v::us)) (EP X pins σ Q) X.xe s
section
variable{X:Cx}{a b:Expr}{ta tb:TE}{pos:Pos}
theorem IxR.or{r r':R2}(h:IxR X r)(h':IxR X r'):IxR X (fun x y H Q=>r x y H Q∨r' x y H Q):=by
 intro value slice pins s σ H x y v u Q I rx ry q hs
 rcases q with q|q
 ·exact h value slice pins s σ H x y v u Q I rx ry q hs
 ·exact h' value slice pins s σ H x y v u Q I rx ry q hs
theorem GL{r:R2}(hr:IxR X r)(ha:PE X a ta)(hb:PE X b tb)(hs:Ya b):PE X (.Subscript a b pos) (tOp r ta tb):=by
 intro pins s σ H Q I h
 exact Subscript_ (Tp ha hb I h fun v u s2 x y H2 I2 rx ry q=>hr a b pins s2 σ H2 x y v u Q I2 rx ry q (hs _ _))
noncomputable def rIxL(K:Frag):R2:=fun x y H Q=>∃p xs i v,x=.ref p∧y=.int i∧SqL K H p xs∧atI xs i=some v∧Q v H
noncomputable def rIxT(K:Frag):R2:=fun x y H Q=>∃p xs i v,x=.ref p∧y=.int i∧SqT K H p xs∧atI xs i=some v∧Q v H
noncomputable def rIxS:R2:=fun x y H Q=>∃z i c,x=.str z∧y=.int i∧z.length≤sizeLine∧atI z.cps.toList i=some c∧Q (.str ⟨#[c]⟩) H
theorem ix_list:IxR X (rIxL X.K):=by
 intro value slice pins s σ H x y v u Q I rx ry h hs
 obtain⟨p,xs,i,z,rfl,rfl,hq,he,q⟩:=h
 cases rx
 obtain⟨t,rfl⟩:=ry
 obtain⟨its,r,pl,hz⟩:=I.list hq
 obtain⟨j,h1,h2,h3,h4,h5⟩:=Z9 he
 obtain⟨w,ew,rw'⟩:=r.get h2
 have hl:=r.length
 have hn:=vg
 have fin:EP X pins σ Q w s:=⟨z,H,I,rw',q⟩
 by_cases h0:0≤i
 ·have hj:i.toNat=j:=by
   rw[seqIndex_of h0 h5] at h1
   exact Option.some.inj h1
  exact item_listR pl.isList h0 (by lia) (by rw[hj];simpa using ew) fin hs
 ·have hj:(i+(its.toArray.size:Int)).toNat=j:=by
   rw[seqIndex_neg (by lia) h4] at h1
   rw[size_toArray,← hl]
   exact Option.some.inj h1
  exact subscriptTail_builtinR (x:=w) pl.isList.typeIs slot_list_getitem.lookup
   (wpAny_getItem_list_neg (Q:=fun r s'=>r=w∧EP X pins σ Q r s') pl.isList (by lia) (by rw[size_toArray] <;> lia) (by lia) (by rw[hj];simpa using ew) ⟨rfl,fin⟩) hs
theorem ix_tup:IxR X (rIxT X.K):=by
 intro value slice pins s σ H x y v u Q I rx ry h hs
 obtain⟨p,xs,i,z,rfl,rfl,hq,he,q⟩:=h
 cases rx
 obtain⟨t,rfl⟩:=ry
 obtain⟨its,r,pl,hz⟩:=I.tuple hq
 obtain⟨j,h1,h2,h3,h4,h5⟩:=Z9 he
 obtain⟨w,ew,rw'⟩:=r.get h2
 have hl:=r.length
 have hn:=vg
 have fin:EP X pins σ Q w s:=⟨z,H,I,rw',q⟩
 exact subscriptTail_builtinR (x:=w) pl.typeIs slot_tuple_getitem.lookup
  (getItem_tuple (j:=j) (Q:=fun r s'=>r=w∧EP X pins σ Q r s') pl (by lia) (by lia) (by rw[size_toArray,← hl];exact h1) (by simpa using ew) ⟨rfl,fin⟩) hs
theorem M3:IxR X rIxS:=by
 intro value slice pins s σ H x y v u Q I rx ry h hs
 obtain⟨z,i,c,rfl,rfl,hz,he,q⟩:=h
 obtain⟨t,rfl⟩:=rx
 obtain⟨t',rfl⟩:=ry
 obtain⟨j,h1,h2,h3,h4,h5⟩:=Z9 he
 have hl:z.cps.toList.length=z.length:=by simp[Str.length]
 rw[hl] at h1 h4 h5
 have hn:=vg
 exact tail_any (typeIs_str s z t) slot_str_getitem.lookup (getItem_str (c:=c) (by
  have e1:decide (i < -(2 ^ 63:Int))=false:=decide_eq_false (by lia)
  have e2:decide (i ≥ 2 ^ 63)=false:=decide_eq_false (by lia)
  rw[e1,e2,Bool.or_false]) (by rw[h1];simpa using h2) ⟨.str ⟨#[c]⟩,H,I.tok _,⟨_,rfl⟩,q⟩) hs
noncomputable def rIx(K:Frag):R2:=fun x y H Q=>rIxL K x y H Q∨rIxT K x y H Q∨rIxS x y H Q
theorem M4:IxR X (rIx X.K):=ix_list.or (ix_tup.or M3)
theorem Xv(its:List Value)(n j:Nat)(u:Value):Obj.mapSeq (·.setIfInBounds j u) { cls:=.type "list", data:=.seq its.toArray n } = { cls:=.type "list", data:=.seq (its.set j u).toArray n }:=by
 simp[Obj.mapSeq]
theorem Inv.lst{pins:List (Addr×Obj)}{σ:St}{H:Hp}{s:Shared}{p:Addr}{xs:List V}(I:Inv X pins σ H s)(h:H p=some (.lst xs)) :
  ∃(its:List Value) (n:Nat),Vals xs its∧s.heap.get? p=some { cls:=.type "list", data:=.seq its.toArray n }∧xs.length≤sizeLine:=by
 obtain⟨z,its,n,r,e⟩:=I.hok p _ h
 exact⟨its,n,r,e,z⟩
theorem Inv.lstUpd{pins:List (Addr×Obj)}{σ:St}{H:Hp}{s:Shared}{p:Addr}{xs ys:List V}{its its':List Value}{n n':Nat}{f:Obj→Obj}(I:Inv X pins σ H s)(h:H p=some (.lst xs))
  (ho:s.heap.get? p=some { cls:=.type "list", data:=.seq its.toArray n }) (hf:f { cls:=.type "list", data:=.seq its.toArray n } = { cls:=.type "list", data:=.seq its'.toArray n' }) (r:Vals ys its') (hz:ys.length≤sizeLine) (t:Nat) :
  Inv X pins σ (upd H p (.lst ys)) { s with heap:=s.heap.update p f,toks:=t }:=by
 have e:(s.heap.update p f).get? p=some { cls:=.type "list", data:=.seq its'.toArray n' }:=by
  rw[Heap.get?_update_self f ho (by rw[hf] <;> rfl),hf]
 refine I.write (x:=p) (e:=p) (by rw[h];trivial) (.inl rfl) (fun b u hb q=>(Heap.get?_update_other _ _ (Ne.symm hb)).trans q) ⟨_,e⟩ ?_
 exact⟨hz,its',n',r,e⟩
noncomputable def rSetL:V→V→V→Hp→(Hp→Prop)→Prop:=fun o i v H Q=>∃p xs k j,o=.ref p∧i=.int k∧H p=some (.lst xs)∧ixN xs.length k=some j∧Q (upd H p (.lst (xs.set j v)))
theorem V7:PSet X rSetL:=by
 intro pins s σ H o i v ov iv u Q I ro ri rv h
 obtain⟨p,xs,k,j,rfl,rfl,hp,hj,q⟩:=h
 cases ro
 obtain⟨t,rfl⟩:=ri
 obtain⟨its,n,r,ho,hz⟩:=I.lst hp
 obtain⟨h1,h2,h3,h4⟩:=WF hj
 have hl:=r.length
 have hn:=vg
 have I':Inv X pins σ (upd H p (.lst (xs.set j v))) { s with heap:=s.heap.update p (Obj.mapSeq (·.setIfInBounds j u)) }:=
  I.lstUpd hp ho (Xv its n j u) (r.set rv j) (by rw[length_set];exact hz) s.toks
 by_cases h0:0≤k
 ·have hk:k.toNat=j:=by
   rw[seqIndex_of h0 h4] at h1
   exact Option.some.inj h1
  exact PySem.W.ki_setAt ho h0 (by lia) (by rw[size_toArray,← hl];exact h4) (by rw[hk];exact⟨_,I',q⟩)
 ·have hk:(k+(its.toArray.size:Int)).toNat=j:=by
   rw[seqIndex_neg (by lia) h3] at h1
   rw[size_toArray,← hl]
   exact Option.some.inj h1
  exact PySem.W.ki_setBack ho (by lia) (by rw[size_toArray,← hl];exact h3) (by lia) (by rw[hk];exact⟨_,I',q⟩)
theorem ZA(lo hi:Option Int)(n:Nat):(sliceBounds lo hi none n).1=((HT.sIx n 0 lo:Nat):Int)∧(sliceBounds lo hi none n).2.1=((HT.sIx n n hi:Nat):Int)∧(sliceBounds lo hi none n).2.2=1:=by
 refine⟨?_,?_,rfl⟩
 ·cases lo with
  |none=>simp[sliceBounds,HT.sIx]
  |some i=>
   simp only[sliceBounds,HT.sIx,Option.getD_none,show(1:Int) > 0 by decide,if_true]
   by_cases h:i<0
   ·simp only[h,if_true] <;> lia
   ·simp only[h,if_false] <;> lia
 ·cases hi with
  |none=>simp[sliceBounds,HT.sIx]
  |some i=>
   simp only[sliceBounds,HT.sIx,Option.getD_none,show(1:Int) > 0 by decide,if_true]
   by_cases h:i<0
   ·simp only[h,if_true] <;> lia
   ·simp only[h,if_false] <;> lia
theorem jK(its:List Value)(lo hi:Option Int):slicePick its.toArray lo hi none=((its.drop (HT.sIx its.length 0 lo)).take (HT.sIx its.length its.length hi-HT.sIx its.length 0 lo)).toArray:=by
 obtain⟨h1,h2,h3⟩:=ZA lo hi its.toArray.size
 unfold slicePick
 rw[h1,h2,h3]
 simp only[sliceRange_one,pick_run,size_toArray] <;> rfl
noncomputable def rSlL(K:Frag):V→Option Int→Option Int→Hp→VK→Prop:=fun x lo hi H Q=>∃a xs,x=.ref a∧SqL K H a xs∧∀p,H p=none→Q (.ref p) (upd H p (.lst (VJ xs lo hi)))
theorem JU:SlR X (rSlL X.K):=by
 intro pins s σ H x v vl vu lo hi sl Q I rx hs pl pu h
 obtain⟨a,xs,rfl,hx,q⟩:=h
 cases rx
 obtain⟨its,r,ht,hz⟩:=I.list hx
 have hlen:=r.length
 refine⟨"list", _,slot_list_getitem.lookup,ht.isList.typeIs,?_⟩
 refine wpAny_getItem_list_slice ht.isList hs pl pu .none (by simp) ?_ (by rw[size_toArray] <;> lia)
 rw[jK,← hlen]
 refine⟨.ref s.heap.objs.size,_,I.laid (t':=s.toks) (o:=.lst (VJ xs lo hi)) (fun b ob q=>get?_push_of_some _ q) (le_refl _) ?_,rfl,q _ (I.hok.fresh (le_refl _))⟩
 exact⟨le_trans (Y5 xs lo hi) hz,_,0,(r.drop (HT.sIx xs.length 0 lo)).take (HT.sIx xs.length xs.length hi-HT.sIx xs.length 0 lo),Heap.get?_push_size _ rfl⟩
theorem call_len_seq:CallR X (.builtin "len") (fun xs H Q=>∃p ys,xs=[.ref p]∧(SqL X.K H p ys∨SqT X.K H p ys)∧Q (.int ys.length) H):=by
 intro pins s σ H xs us Q I r h
 obtain⟨p,ys,rfl,hq,q⟩:=h
 obtain⟨u,rfl,rx⟩:=vals1 r
 cases rx
 have hn:=vg
 rcases hq with hq|hq
 ·obtain⟨its,r',pl,hz⟩:=I.list hq
  have hlen:=r'.length
  exact Calls.call_len_list pl.isList (by simp only[size_toArray] <;> lia) ⟨.int ys.length,H,I.tok _,⟨s.toks+1,by rw[size_toArray,hlen]⟩,q⟩
 ·obtain⟨its,r',pl,hz⟩:=I.tuple hq
  have hlen:=r'.length
  exact len_tuple pl (by simp only[size_toArray] <;> lia) ⟨.int ys.length,H,I.tok _,⟨s.toks+1,by rw[size_toArray,hlen]⟩,q⟩
theorem Z8:CallR X (.builtin "len") (fun xs H Q=>∃z,xs=[.str z]∧z.length≤sizeLine∧Q (.int z.length) H):=by
 intro pins s σ H xs us Q I r h
 obtain⟨z,rfl,hz,q⟩:=h
 obtain⟨u,rfl,t,rfl⟩:=vals1 r
 have hn:=vg
 exact len_str (by lia) ⟨.int z.length,H,I.tok _,⟨_,rfl⟩,q⟩
theorem CallR.or{f:Value}{r r':List V→Hp→VK→Prop}(h:CallR X f r)(h':CallR X f r'):CallR X f (fun xs H Q=>r xs H Q∨r' xs H Q):=by
 intro pins s σ H xs us Q I rs q
 rcases q with q|q
 ·exact h pins s σ H xs us Q I rs q
 ·exact h' pins s σ H xs us Q I rs q
noncomputable def tyV(K:Frag)(T:String)(x:V)(H:Hp):Prop:=match x with
 |.str _=>T = "str"
 |.int _=>T = "int"
 |.ref p=>(T = "list" ∧ ∃xs,SqL K H p xs)∨(T = "tuple" ∧ ∃o,K.lookup p=some o∧o.cls=.type "tuple" ∧ o.dict=none) ∨
   (T = "dict" ∧ ((∃kvs,H p=some (.dK kvs))∨∃kvs,H p=some (.dT kvs)))∨(T = "set" ∧ ∃S n,H p=some (.set S n))
 |_=>False
theorem VT{pins:List (Addr×Obj)}{σ:St}{H:Hp}{s:Shared}{T:String}{x:V}{v:Value}(I:Inv X pins σ H s)(r:RelV x v)(ty:tyV X.K T x H) :
  s.TypeIs v T∧∀a,v=.ref a→∃ob,s.heap.get? a=some ob∧ob.dict=none:=by
 cases x with
 |str z=>
  obtain⟨t,rfl⟩:=r
  cases (show T = "str" from ty)
  exact⟨typeIs_str s z t,fun _ e=>nomatch e⟩
 |int i=>
  obtain⟨t,rfl⟩:=r
  cases (show T = "int" from ty)
  exact⟨typeIs_int s i t,fun _ e=>nomatch e⟩
 |ref p=>
  cases r
  rcases ty with ⟨rfl,xs,hq⟩|⟨rfl,o,hk,hc,hd⟩|⟨rfl,hk⟩|⟨rfl,S,n,hk⟩
  ·obtain⟨its,_,pl,_⟩:=I.list hq
   refine⟨pl.isList.typeIs,fun a e=>?_⟩
   cases e
   obtain⟨o,n,e,c,hd,_⟩:=pl
   exact⟨o,e,hd⟩
  ·refine⟨⟨o,I.kIn p o hk,hc⟩,fun a e=>?_⟩
   cases e
   exact⟨o,I.kIn _ o hk,hd⟩
  ·have z:∃o,s.heap.get? p=some o∧o.ExactDict:=by
    rcases hk with ⟨kvs,hk⟩|⟨kvs,hk⟩
    ·obtain⟨_,_,_,_,o,_,_,e,ex,_⟩:=I.hok p _ hk
     exact⟨o,e,ex⟩
    ·obtain⟨_,_,_,_,o,_,_,e,ex,_⟩:=I.hok p _ hk
     exact⟨o,e,ex⟩
   obtain⟨o,e,ex⟩:=z
   refine⟨⟨o,e,ex.1⟩,fun a e2=>?_⟩
   cases e2
   exact⟨o,e,ex.2.1⟩
  ·obtain⟨o,_,_,_,e,ex,_⟩:=I.hok p _ hk
   refine⟨⟨o,e,ex.1⟩,fun a e2=>?_⟩
   cases e2
   exact⟨o,e,ex.2.1⟩
 |_=>exact False.elim ty
noncomputable def tBM0(K:Frag)(T:String)(r:V→List V→Hp→VK→Prop)(to:TE):TE:=fun σ H Q=>to σ H fun x H1=>tyV K T x H1∧r x [] H1 Q
noncomputable def tBM(K:Frag)(T:String)(r:V→List V→Hp→VK→Prop)(to:TE)(t:TA):TE:=fun σ H Q=>to σ H fun x H1=>tyV K T x H1∧t σ H1 fun xs H2=>r x xs H2 Q
variable{o e:Expr}{es:List Expr}{to:TE}{t:TA}{name:Str}{apos cpos:Pos}{T id:String}{r:V→List V→Hp→VK→Prop}
theorem Mv(pa:PlainAttrs T)(slot:Slot T name id)(hty:typeOf (.builtin id)=pure (.type "method_descriptor"))(hm:MtR X id r)(ho:PE X o to)
  (hbase:attributeBase o name X.env (eval o X.env)=eval o X.env:=by rfl) (hline:(apos.endLine==cpos.line)=true:=by rfl):PE X (.Call (.Attribute o name apos) [] [] cpos) (tBM0 X.K T r to):=by
 intro pins s σ H Q I h
 refine wpAny_Call_method0_late hbase hline (thn (ho pins s σ H _ I h) fun v s1 z_=>?_)
 obtain⟨x,H1,I1,r1,ty,q1⟩:=z_
 obtain⟨h1,h2⟩:=VT I1 r1 ty
 exact⟨T,id,pa,slot,hty,h1,h2,Calls.callWith_builtin rfl (PySem.evalArgs_none (hm pins s1 σ H1 x [] v [] Q I1 r1 .nil q1))⟩
theorem GM(pa:PlainAttrs T)(slot:Slot T name id)(hty:typeOf (.builtin id)=pure (.type "method_descriptor"))(hm:MtR X id r)(ho:PE X o to)(ha:PA X (e::es) t)
  (hbase:attributeBase o name X.env (eval o X.env)=eval o X.env:=by rfl)
  (hfew:((backTo cpos (starEach (e::es) X.env)).all (fun x=>!x.1)&&(backToKw cpos (keywordEach [] X.env)).all (fun x=>x.1.isSome)
   && decide ((e::es).length+([]:List Keyword).length+(if ([]:List Keyword).isEmpty then 0 else 1)<30))=true:=by rfl)
  (hline:(apos.endLine==cpos.line)=true:=by rfl) (hs:starEach (e::es) X.env=(false,eval e X.env)::starEach es X.env:=by rfl) (hplain:(backTo cpos (starEach es X.env)).any (·.1)=false:=by rfl) :
  PE X (.Call (.Attribute o name apos) (e::es) [] cpos) (tBM X.K T r to t):=by
 intro pins s σ H Q I h
 refine wpAny_Call_method_late hbase hfew hline rfl (thn (ho pins s σ H _ I h) fun v s1 z_=>?_)
 obtain⟨x,H1,I1,r1,ty,q1⟩:=z_
 obtain⟨h1,h2⟩:=VT I1 r1 ty
 refine⟨T,id,pa,slot,hty,h1,h2,?_⟩
 have hA:=ha cpos pins s1 σ H1 _ I1 q1
 rw[hs] at hA ⊢
 refine Calls.callWith_builtin (by show(false||(backTo cpos (starEach es X.env)).any (·.1))=false;rw[hplain] <;> rfl) (Calls.evalArgs_plain ?_)
 exact thn hA fun us s2 z_=>by obtain⟨vs,H2,I2,r2,q2⟩:=z_;exact hm pins s2 σ H2 x vs v us Q I2 r1 r2 q2
end
noncomputable def MtM(X:Cx)(id:String)(r:V→List V→Hp→VK→Prop):Prop:=
 ∀(pins:List (Addr×Obj)) (s:Shared) (σ:St) (H:Hp) (x:V) (xs:List V) (v:Value) (us:List Value) (Q:VK),Inv X pins σ H s→RelV x v→Vals xs us→r x xs H Q →
  wpAny (model X.prog X.w) X.A (call (.builtin id) (v::us)) (EP X pins σ Q) X.xe s
theorem Vals.one{x:V}{us:List Value}(h:Vals [x] us):∃u,us=[u]∧RelV x u:=by
 cases h with
 |cons r h=>cases h;exact⟨_,rfl,r⟩
theorem Vals.rep{xs:List V}{us:List Value}(h:Vals xs us):∀k:Nat,Vals (List.replicate k xs).flatten (List.replicate k us).flatten:=by
 intro l_
 induction l_ with
 |zero=>
  exact .nil
 |succ k ih_=>
  rw[replicate_succ,replicate_succ,flatten_cons,flatten_cons]
  exact Vals.append h (ih_)
theorem foldl_rep(its:List Value):∀(k:Nat) (acc:List Value),
  List.foldl (fun x1 x2=>x1++x2) acc.toArray (List.replicate k its.toArray)=(acc++(List.replicate k its).flatten).toArray:=by
 intro l_
 induction l_ with
 |zero=>
  rintro acc
  simp
 |succ k ih_=>
  rintro acc
  have e:acc.toArray++its.toArray=(acc++its).toArray:=by simp
  have e2:(acc++its)++(List.replicate k its).flatten=acc++(List.replicate (k+1) its).flatten:=by
   rw[replicate_succ,flatten_cons,append_assoc]
  rw[← e2,← ih_ (acc++its),← e,replicate_succ,foldl_cons]
section
variable{X:Cx}{pins:List (Addr×Obj)}{σ:St}{H:Hp}{s:Shared}{l b:Addr}{xs ys zs:List V}
theorem Inv.lset{its its':List Value}{n:Nat}{f:Array Value→Array Value}{t':Nat}(I:Inv X pins σ H s)(hH:H l=some (.lst xs))
  (e:s.heap.get? l=some { cls:=.type "list", data:=.seq its.toArray n }) (hf:f its.toArray=its'.toArray) (hv:Vals ys its') (hz:ys.length≤sizeLine) :
  Inv X pins σ (upd H l (.lst ys)) { s with heap:=s.heap.update l (Obj.mapSeq f),toks:=t' }:=by
 have q:=PySem.IsL.update e f
 rw[hf] at q
 refine I.write (x:=l) (e:=l) (by rw[hH];exact trivial) (.inl rfl) (fun b' u hb hu=>(Heap.get?_update_other s.heap (Obj.mapSeq f) (Ne.symm hb)).trans hu) ⟨_,q⟩ ?_
 exact⟨hz,its',_,hv,q⟩
theorem Inv.lnew{its:List Value}{t':Nat}(I:Inv X pins σ H s)(hv:Vals ys its)(hz:ys.length≤sizeLine) :
  Inv X pins σ (upd H s.heap.objs.size (.lst ys)) { s with heap:=s.heap.push { cls:=.type "list", data:=.seq its.toArray },toks:=t' }:=
 I.laid (fun _ _ q=>get?_push_of_some _ q) (le_refl _) ⟨hz,its,0,hv,Heap.get?_push_size _ rfl⟩
theorem Inv.fresh(I:Inv X pins σ H s):H s.heap.objs.size=none:=I.hok.fresh (le_refl _)
theorem Inv.lstM(I:Inv X pins σ H s)(hH:H l=some (.lst xs)):xs.length≤sizeLine∧∃(its:List Value) (n:Nat),Vals xs its∧xs.length=its.length∧s.heap.get? l=some { cls:=.type "list", data:=.seq its.toArray n }:=by
 obtain⟨z,its,n,r,e⟩:=I.hok l _ hH
 exact⟨z,its,n,r,r.length,e⟩
theorem UM{n:Nat}(h:n≤sizeLine):Builtin.List.listTooLong n=false:=by
 unfold Builtin.List.listTooLong
 exact decide_eq_false (by lia)
end
section
variable{X:Cx}
noncomputable def J7:V→List V→Hp→VK→Prop:=fun x vs H Q=>∃l xs y,x=.ref l∧vs=[y]∧H l=some (.lst xs)∧xs.length<sizeLine∧Q .non (upd H l (.lst (xs++[y])))
theorem uh:MtM X "list.append" J7:=by
 intro pins s σ H x vs v us Q I rx rv h
 obtain⟨l,xs,y,rfl,rfl,hH,hz,q⟩:=h
 cases rx
 obtain⟨u,rfl,ru⟩:=rv.one
 obtain⟨z,its,n,r,hl,e⟩:=I.lstM hH
 refine call_meets F.slot_list_append ⟨_,e,rfl⟩ F.entry_list_append (F.args_list_append_2 _ _) (PySem.list_append l its.toArray n u (by rw[size_toArray];lia)) ⟨e,?_⟩
 refine⟨.non,_,I.lset (its':=its++[u]) hH e (by simp) (r.append (.cons ru .nil)) ?_,rfl,q⟩
 rw[length_append,length_singleton]
 lia
noncomputable def rCat:R2:=fun x y H Q=>∃l b xs zs,x=.ref l∧y=.ref b∧H l=some (.lst xs)∧H b=some (.lst zs)∧xs.length+zs.length≤sizeLine∧∀p,H p=none→Q (.ref p) (upd H p (.lst (xs++zs)))
theorem MF:OpR X (binaryOp .Add) rCat:=by
 intro pins s σ H x y v u Q I rx ry h
 obtain⟨l,b,xs,zs,rfl,rfl,hH,hB,hz,q⟩:=h
 cases rx
 cases ry
 obtain⟨z,its,n,r,hl,e⟩:=I.lstM hH
 obtain⟨z2,its2,n2,r2,hl2,e2⟩:=I.lstM hB
 refine PySem.P.add_list e e2 ?_ (by rw[size_toArray,size_toArray];lia)
 have ea:its.toArray++its2.toArray=(its++its2).toArray:=by simp
 rw[ea]
 exact⟨.ref _,_,I.lnew (t':=s.toks) (r.append r2) (by rw[length_append];lia),rfl,q _ I.fresh⟩
noncomputable def rRep:R2:=fun x y H Q=>∃l k xs,x=.ref l∧y=.int k∧H l=some (.lst xs)∧-(2 ^ 63)≤k∧k<2 ^ 63∧xs.length*k.toNat≤sizeLine ∧
 ∀p,H p=none→Q (.ref p) (upd H p (.lst (List.replicate k.toNat xs).flatten))
theorem QX{α:Type}(xs:List α)(k:Nat):(List.replicate k xs).flatten.length=k*xs.length:=by
 induction k with
 |zero=>simp
 |succ k ih=>rw[replicate_succ,flatten_cons,length_append,ih,Nat.succ_mul,Nat.add_comm]
theorem MD:OpR X (binaryOp .Mult) rRep:=by
 intro pins s σ H x y v u Q I rx ry h
 obtain⟨l,k,xs,rfl,rfl,hH,h1,h2,hz,q⟩:=h
 cases rx
 obtain⟨t,rfl⟩:=ry
 obtain⟨z,its,n,r,hl,e⟩:=I.lstM hH
 have hlen:its.toArray.size*k.toNat≤sizeLine:=by rw[size_toArray,← hl];exact hz
 have hcap:¬ its.toArray.size*k.toNat > (2 ^ 63-1) / 8:=by
  have:(sizeLine:Nat)≤(2 ^ 63-1) / 8:=by decide
  lia
 have hfit:¬ (!Builtin.List.listFitsIndex k)=true:=by
  rw[fitsIndex_both h1 h2]
  exact Bool.false_ne_true
 have hlong:¬ Builtin.List.listTooLong (its.toArray.size*k.toNat)=true:=by
  rw[UM hlen]
  exact Bool.false_ne_true
 have hnew:List.foldl (fun x1 x2=>x1++x2) #[] (List.replicate (if its.toArray.isEmpty=true then 0 else k.toNat) its.toArray)=(List.replicate k.toNat its).flatten.toArray:=by
  have f0:∀m:Nat,List.foldl (fun x1 x2=>x1++x2) #[] (List.replicate m its.toArray)=(List.replicate m its).flatten.toArray:=fun m=>by
   have:=foldl_rep its m []
   rw[nil_append] at this
   exact this
  rw[f0]
  cases its with
  |nil=>simp
  |cons a r'=>rw[if_neg (by simp)]
 refine wpAny_binaryOp_repeat_ref (T := "list") (U := "int") (by decide) ⟨_,e,rfl⟩ (fun s'=>typeIs_int s' k t) noFill_list_mul F.fills_int_mul F.slot_int_rmul repeat_list F.slot_int_index.lookup
  (call_meets F.slot_int_rmul (typeIs_int s k t) F.entry_int_rmul (F.args_int_rmul_2 _ _) (int___rmul___int_list k t l its.toArray n)
   ⟨e,rfl,⟨_,e,rfl⟩,call_meets F.slot_list_mul ⟨_,e,rfl⟩ F.entry_list_mul (F.args_list_mul_2 _ _) (AutoListH.list___mul___list_int_3 l its.toArray n k t hfit hcap hlong) ⟨e,?_⟩⟩)
 rw[hnew]
 exact⟨.ref _,_,I.lnew (t':=s.toks) (r.rep k.toNat) (by rw[QX,Nat.mul_comm];exact hz),rfl,q _ I.fresh⟩
end
section
variable{prog:Program}{w:World}{A:Around}{E:Value→Shared→Prop}{s:Shared}
end
section
variable{X:Cx}
end
end L2
namespace Att
open PySem PySem.W PySem.Calls PyProof.Rows
theorem uK{P:Params}{h:Heap}:∀(ns:List Int) (vs:List Value),WellAll P h vs (ns.map WData.int)→IntsAre vs ns:=by
 intro ns
 induction ns with
 |nil=>
  intro vs w
  rw[map_nil] at w
  cases w
  exact .nil
 |cons n ns ih=>
  intro vs w
  rw[map_cons] at w
  cases w with
  |cons a b=>
   cases a
   exact .cons _ _ (ih _ b)
theorem W4{l:OpenLaw}{n:Nat}(hn:l.most=some n){P:Params}{h:Heap}{args:List WData}{vals:List Value}
  (hpre:l.row.toRowW.claim.pre args=true) (hwl:WellAll P h vals args) :
  ∃a vs ns,vals=[Value.ref a]∧args=[WData.list (ns.map WData.int)]∧h.get? a=some { cls:=.type "list", data:=.seq vs.toArray }∧IntsAre vs ns∧ns.length≤n:=by
 have hsh:WShape.hasAll [] args [.list .int]=true:=(pre_splitW hpre).1
 have hc:l.pre.holds [] { args:=args }=true:=(pre_splitW hpre).2
 obtain⟨d,r,rfl,h1,h2⟩:=hasAllW_cons hsh
 obtain rfl:=hasAllW_nil h2
 obtain⟨xs,rfl,h3⟩:=hasW_list h1
 obtain⟨ns,rfl⟩:=items_int h3
 have hlen:ns.length≤n:=by
  unfold OpenLaw.pre at hc
  have h4:(WTm.not (.lt (.lit (.int (n:Int))) (.len (.arg 0)))).holds [] { args:=[.list (ns.map .int)] }=true:=by
   have h4:=(holds_andW hc).1
   rw[hn] at h4
   exact h4
  have h5:=condW_of h4 (w_not (w_lt w_lit (w_len_list (w_arg rfl))))
  rw[length_map] at h5
  refine Nat.le_of_not_lt fun q=>?_
  have q':(n:Int)<((ns.length:Nat):Int):=by lia
  first
   | (rw[decide_eq_true q'] at h5;exact absurd h5 (by decide))
   | (simp at h5;lia)
 cases hwl with
 |cons w1 w2=>
  cases w2
  cases w1 with
  |list ho hall=>exact⟨_,_,ns,rfl,rfl,ho,uK ns _ hall,hlen⟩
theorem Va(l:OpenLaw)(args:List WData):l.row.toRowW.claim.post args (.bool true) args=true:=
 postW_of (r:=l.row.toRowW) (X:=(true==true))
  (show WShape.has [] (.bool true) .bool=true by first|rfl|decide|simp[WShape.has,WShape.arms,WShape.armsAll])
  (show(WTm.eq .res (.lit (.bool true))).value [] { args:=args,res:=some (.bool true),after:=args }=some (.bool (true==true)) from w_eq_bool (w_res rfl) w_lit) rfl
theorem attach_call{l:OpenLaw}{n:Nat}{q:Program}{loose:List Str}{XP:(Str→Option Value)→Heap→Prop}{YP:World→Heap→Prop}{d:DefRec}
  (hn:l.most=some n) (hdf:d.params.defaults=[])
  (call:∀(w:World) (s₀ s₁:Shared) (mg mb:Str→Option Value) (fa:Addr) (o:Obj) (pm cd doc:Value) (a:Addr) (vs:List Value) (ns:List Int),
   Ground q loose [] XP w s₀ mg mb s₁.heap→YP w s₁.heap →
   s₁.heap.get? fa=some o→o.data=.func (docDef d.name d.params d.body d.scope pm cd doc)→s₁.heap.CodeRec cd d.name→mg d.name=some (.ref fa) →
   s₁.heap.get? a=some { cls:=.type "list", data:=.seq vs.toArray }→IntsAre vs ns→ns.length≤n→s₁.gens = #[] →
   codeAny (model l.prog w) callerA (.call (.ref fa) ⟨[.ref a],[]⟩) (fun r s'=>r=.ok (.ret (.bool true))∧OldK s₁.heap s'.heap∧s'.os=s₁.os∧AllBare s'.gens) s₁) :
  WalkO q loose XP YP l.row.toRowW d [] (fun f vs=>PySem.call f vs):=by
 intro w s₀ s₁ mg mb G Y fa o pm cd doc dV kV ho hd hcd hD hmg hg args vals as hpre hlay hrd hwl hlo
 obtain rfl:dV=.none:=Dflts.none hD hdf
 obtain rfl:kV=.none:=Dflts.noKw hD
 obtain⟨a,vs,ns,rfl,rfl,hobj,hints,hlen⟩:=W4 hn hpre hwl
 refine enter_call (codeAny_mono (call w s₀ s₁ mg mb fa o pm cd doc a vs ns G Y ho (fd_plain hd) hcd hmg hobj hints hlen hg) fun r s' hq=>?_)
 obtain⟨rfl,h2,h3,h4⟩:=hq
 exact⟨.inl ⟨.bool true,.bool true,[],rfl,fun _=>rfl,.bool true,Va l _,fun _=>⟨List.Pairwise.nil,fun _ hm=>(nomatch hm)⟩⟩,h2,h3,h4⟩
section
variable{prog:Program}{w:World}{A:Around}{E:Value→Shared→Prop}{s:Shared}{K:Frag}
end
end Att
namespace L2
open PySem PySem.Spec PyProof.Rows
theorem vals_ints:∀{vs:List Value} {ns:List Int},IntsAre vs ns→Vals (ns.map V.int) vs
 |_,_,.nil=>.nil
 |_,_,.cons n t h=>.cons ⟨t,rfl⟩ (vals_ints h)
noncomputable def Tw(H:Hp):Prop:=∀b,H b=none∨∃o xs,H b=some (.frz o (.lst xs))
theorem U2{P:Program}{w:World}{K:Frag}{mg mb:Str→Option Value}{CX:CXT}{k:Nat}{fa a:Addr}{fd:FuncData}{x:Str}{sp:Sp}{s₁:Shared}{vs:List Value}{ns:List Int}
  (KX:K.In s₁.heap) (hns:s₁.heap.Ns mainGlobals mg) (hb:s₁.heap.Ns builtinsNs mb) (hbb:∀x:Str,x ≠ "__name__" → mb x=bootBuiltins x) (hlim:s₁.heap.NoLimit) (hg:s₁.gens = #[])
  (ha:s₁.heap.get? a=some { cls:=.type "list", data:=.seq vs.toArray }) (hi:IntsAre vs ns) (hl:ns.length≤sizeLine) (hr:Room k callerA)
  (F:∀base:Heap,K.In base→base.Ns mainGlobals mg→FnOk P w K mg base CX k fa fd [x] sp) (hbind:∀(s:Shared) (u:Value),BindsTo s fd ⟨[u],[]⟩ [(x,u)])
  (hsp:∀H:Hp,Tw H→SqL K H a (ns.map V.int)→sp [.ref a] H (fun v _=>v=.bl true) fun _ _ _=>False)
  (hCX:∀H e s',CX [] H s₁ (fun _ _ _=>False) e s'→False) :
  codeAny (model P w) callerA (.call (.ref fa) ⟨[.ref a],[]⟩) (fun r s'=>r=.ok (.ret (.bool true))∧OldK s₁.heap s'.heap∧s'.os=s₁.os∧AllBare s'.gens) s₁:=by
 have rv:=vals_ints hi
 have lenV:=hi.length
 have core:∀H:Hp,Tw H→SqL K H a (ns.map V.int)→HOk P w H s₁.heap→(∀b,H b≠none→b=a)→(H a≠none→K.lookup a=none) →
   codeAny (model P w) callerA (.call (.ref fa) ⟨[.ref a],[]⟩) (fun r s'=>r=.ok (.ret (.bool true))∧OldK s₁.heap s'.heap∧s'.os=s₁.os∧AllBare s'.gens) s₁:=by
  intro H hO hS hok hA hK
  have base_of:∀{b:Addr} {o:Obj},s₁.heap.get? b=some o→H b=none→(Z3 s₁.heap H).get? b=some o:=fun e n=>Jh e n
  have noA:∀{b:Addr} {o:Obj} {es:Array DictEntry} {ep:Nat},s₁.heap.get? b=some o→o.data=.dict es ep→H b=none:=fun {b o es ep} e d=>by
   cases q:H b with
   |none=>rfl
   |some u=>
    have e':b=a:=hA b (by rw[q];simp)
    subst e'
    rw[ha] at e;cases e
    have d':Data.seq vs.toArray _=Data.dict es ep:=d
    cases d'
  have nsK:∀{b:Addr} {m:Str→Option Value},s₁.heap.Ns b m→(Z3 s₁.heap H).Ns b m:=fun {b m} ⟨o,es,ep,e,d,r⟩=>⟨o,es,ep,base_of e (noA e d),d,r⟩
  have hKb:K.In (Z3 s₁.heap H):=fun b o e=>base_of (KX b o e) (by
   cases q:H b with
   |none=>rfl
   |some u=>
    have e':b=a:=hA b (by rw[q];simp)
    subst e'
    rw[hK (by rw[q];simp)] at e;cases e)
  have hM:Mod K mg (Z3 s₁.heap H):=⟨hKb,nsK hns,⟨mb,nsK hb,hbb⟩,let ⟨mc,h1,h2⟩:=hlim;⟨mc,nsK h1,h2⟩⟩
  have e0:Env0 P w K mg (Z3 s₁.heap H) callerA [] s₁ H:=⟨rfl,hM,fun b o e=>QG e,Nat.le_of_eq (Vy _ _),trivial,fun b hb=>absurd (show b∈([]:List Addr) from hb) (by simp),hok,.of_eq hg⟩
  refine codeAny_mono ((F _ hKb (nsK hns)).run callerA [] s₁ H ⟨[.ref a],[]⟩ [.ref a] [.ref a] _ _ hr e0 (hbind s₁ (.ref a)) (.cons rfl .nil) (hsp H hO hS)) fun r s' h=>?_
  cases r with
  |error e=>exact(hCX H e s' h).elim
  |ok fl=>
   cases fl with
   |next=>exact False.elim h
   |brk=>exact False.elim h
   |cont=>exact False.elim h
   |ret u=>
    obtain⟨v,H',os,bare,un,hok',r',q⟩:=h
    have q':v=.bl true:=q
    subst q'
    obtain rfl:u=Value.bool true:=r'
    refine⟨rfl,OldK.of_keep fun b o e=>?_,os,bare⟩
    cases q:H b with
    |none=>exact un.keep b o e q (by intro z;exact absurd (show b∈([]:List Addr) from z) (by simp)) (by simp)
    |some u=>
     rcases hO b with z|⟨ob,xs,z⟩
     ·rw[q] at z;cases z
     ·have z2:=un.frzs b ob _ z
      obtain⟨e1,_⟩:=hok b _ z
      obtain⟨e2,_⟩:=hok' b _ z2
      rw[e] at e1;cases e1
      exact e2
 cases hk:K.lookup a with
 |some o=>
  have e:=KX a o hk
  rw[ha] at e
  cases e
  refine core (fun _=>none) (fun _=>.inl rfl) (.inr ⟨_,vs.toArray,_,hk,rfl,rfl,rfl,by rw[size_toArray,lenV];exact hl,by simpa using rv⟩) (fun b u z=>by have z':(none:Option HO)=some u:=z;cases z') (fun b z=>absurd rfl z) fun z=>absurd rfl z
 |none=>
  refine core (fun b=>if b=a then some (.frz { cls:=.type "list", data:=.seq vs.toArray } (.lst (ns.map V.int))) else none) (fun b=>?_) (.inl (.inr ⟨{ cls:=.type "list", data:=.seq vs.toArray },if_pos rfl⟩)) (fun b u z=>?_) (fun b z=>?_) fun _=>hk
  ·by_cases hb:b=a
   ·exact .inr ⟨_,_,if_pos hb⟩
   ·exact .inl (if_neg hb)
  ·by_cases hb:b=a
   ·have z':=(if_pos hb).symm.trans z
    cases z'
    subst hb
    exact⟨ha,by rw[length_map];exact hl,vs,_,rv,ha⟩
   ·have z':=(if_neg hb).symm.trans z
    cases z'
  ·by_cases hb:b=a
   ·exact hb
   ·exact absurd (if_neg hb) z
theorem walk_of{l:PySem.W.OpenLaw}{n k:Nat}{q:Program}{loose:List Str}{XP:(Str→Option Value)→Heap→Prop}{YP:World→Heap→Prop}{d:DefRec}{K:Params→Frag}{CX:World→CXT}{sp:World→Sp}{x:Str}
  (hn:l.most=some n) (hn2:n≤sizeLine) (hdf:d.params.defaults=[]) (hr:Room k callerA)
  (hY:∀(w:World) (h:Heap),YP w h→(K w.params).In h)
  (F:∀(w:World) (mg:Str→Option Value) (fa:Addr) (h:Heap),(K w.params).In h→h.Ns mainGlobals mg→mg d.name=some (.ref fa) →
   ∃fd:FuncData,(∀(s:Shared) (u:Value),BindsTo s fd ⟨[u],[]⟩ [(x,u)]) ∧
    ∀base:Heap,(K w.params).In base→base.Ns mainGlobals mg→FnOk l.prog w (K w.params) mg base (CX w) k fa fd [x] (sp w))
  (hsp:∀(w:World) (H:Hp) (a:Addr) (ns:List Int),ns.length≤n→Tw H→SqL (K w.params) H a (ns.map V.int)→sp w [.ref a] H (fun v _=>v=.bl true) fun _ _ _=>False)
  (hCX:∀(w:World) (H:Hp) (s:Shared) (e:Value) (s':Shared),CX w [] H s (fun _ _ _=>False) e s'→False) :
  PySem.W.WalkO q loose XP YP l.row.toRowW d [] (fun f vs=>PySem.call f vs):=by
 refine Att.attach_call hn hdf fun w s₀ s₁ mg mb fa o pm cd doc a vs ns G Y ho hd hcd hmg hobj hints hlen hg=>?_
 have KX:=hY w _ Y
 obtain⟨fd,hb,hF⟩:=F w mg fa _ KX G.T.g hmg
 exact U2 KX G.T.g G.T.b G.T.builtins G.T.nolimit hg hobj hints (le_trans hlen hn2) hr hF hb (fun H hO hS=>hsp w H a ns hlen hO hS) fun H e s'=>hCX w H s₁ e s'
noncomputable def uW(s:Stmt)(j:Nat):Stmt:=match s with
 |.ClassDef _ _ _ body _ _ _ _ _ _ _=>body.getD j (.Pass ⟨0,0,0,0⟩)
 |_=>.Pass ⟨0,0,0,0⟩
noncomputable def zO(s:Stmt):Arguments:=match s with
 |.FunctionDef _ a _ _ _ _ _ _ _ _=>a
 |_=>{ posonlyargs:=[],args:=[],vararg:=none,kwonlyargs:=[],kw_defaults:=[],kwarg:=none,defaults:=[] }
noncomputable def zC(s:Stmt):List Stmt:=match s with
 |.FunctionDef _ _ b _ _ _ _ _ _ _=>b
 |_=>[]
noncomputable def zi(s:Stmt):Scope:=match s with
 |.FunctionDef _ _ _ _ _ _ sc _ _ _=>sc
 |_=>{ kind:=.function,names:=[],isGenerator:=false,isCoroutine:=false }
noncomputable abbrev CX0:CXT:=fun _ _ _ _ _ _=>False
noncomputable abbrev E0:XK:=fun _ _ _=>False
theorem YC{X:Cx}:vp CX0 X E0:=fun _ _ _ _ _ _ _ h=>h.elim
structure Fun(K:Frag)(x qual:Str)(st:Stmt)(f:Addr)(fd:FuncData):Prop where
 ex:∃(oc:Value) (od:Option Addr) (kV doc pm:Value) (an:Option Addr) (cdv ct:Value) (osl:Array (Option Value)),
  fd=fnOf x qual (zO st) (zC st) (zi st) .none kV doc pm an cdv ct∧K.lookup f=some ⟨oc,od,.func fd,osl⟩∧codeIn K cdv qual=true
 kp:keepIn K (.ref f)=true
section
variable{P:Program}{w:World}{K:Frag}{mg:Str→Option Value}{base:Heap}
theorem Fun.ok{x qual:Str}{st:Stmt}{f:Addr}{fd:FuncData}{N ps:List Str}{k:Nat}{sp:Sp}(F:Fun K x qual st f fd)(S:zL N ps (zi st))(len:∀vs H Q E,sp vs H Q E→vs.length=ps.length)
  (hbody:∀(cdv:Value) (A:Around) (outer:List Env) (s:Shared) (H:Hp) (vs:List V) (Q:VK) (E:XK),Room k (A.deeper (envOfC qual (zi st) s.heap.objs.size f cdv))→sp vs H Q E →
   ∃t,PSs (ut CX0 P w K mg base N qual (zi st) f cdv A outer s H E).nox (zC st) t∧t { nx:=fun _ H'=>Q .non H',rt:=Q } (start N vs) H):FnOk P w K mg base CX0 (k+1) f fd ps sp:=by
 obtain⟨oc,od,kV,doc,pm,an,cdv,ct,osl,rfl,lk,hcd⟩:=F.ex
 refine fn_of lk hcd S len fun A outer s H vs Q E hr hsp=>?_
 obtain⟨t,h,q⟩:=hbody cdv A outer s H vs Q E hr hsp
 exact⟨t,h.nox,q⟩
theorem Fun.binds{x qual:Str}{st:Stmt}{f:Addr}{fd:FuncData}{ps:List Str}(F:Fun K x qual st f fd)
  (h:∀(kV doc pm:Value) (an:Option Addr) (cdv ct:Value) (us:List Value),us.length=ps.length→bindArgs (fnOf x qual (zO st) (zC st) (zi st) .none kV doc pm an cdv ct) ⟨us,[]⟩=pure (ps.zip us)):Binds K fd ps []:=by
 obtain⟨oc,od,kV,doc,pm,an,cdv,ct,osl,rfl,lk,hcd⟩:=F.ex
 exact .all (h kV doc pm an cdv ct)
theorem yT{x qual:Str}{st:Stmt}{f:Addr}{oc:Value}{od an:Option Addr}{osl:Array (Option Value)}{kV doc pm cdv ct:Value}(l:K.lookup f=some ⟨oc,od,.func (fnOf x qual (zO st) (zC st) (zi st) .none kV doc pm an cdv ct),osl⟩)
  (c:codeIn K cdv qual=true) (k:keepIn K (.ref f)=true):Fun K x qual st f (fnOf x qual (zO st) (zC st) (zi st) .none kV doc pm an cdv ct):=⟨⟨oc,od,kV,doc,pm,an,cdv,ct,osl,rfl,l,c⟩,k⟩
end
theorem Zl{A:Around}{k:Nat}(hr:Room k A):A.units+1<cLine:=Nat.lt_of_le_of_lt (Nat.add_le_add_left (by decide:1≤64) _) hr.units
theorem wa{n:Nat}(h:n≤1000):n<sizeLine:=Nat.lt_of_le_of_lt h (by decide)
section
variable{X:Cx}
theorem pv(i:Nat){x:Str}{pos:Pos}(hN:X.N[i]?=some x:=by rfl)(hv:Vis X.env.scope x:=by first|exact Or.inl rfl|exact Or.inr (Or.inl rfl) | exact Or.inr (Or.inr rfl))(hd:(x==("__debug__" : Str))=false:=by decide)
  (hcd:(x==("__classdict__" : Str))=false:=by decide):PE X (.Name x pos) (xB i):=Mo hN hv hd hcd
end
noncomputable def Same(H H':Hp):Prop:=∀b o,H b=some o→H' b=some o
theorem Same.refl(H:Hp):Same H H:=fun _ _ h=>h
theorem Same.trans{H H1 H2:Hp}(a:Same H H1)(b:Same H1 H2):Same H H2:=fun c o h=>b c o (a c o h)
theorem Same.seq{K:Frag}{H H':Hp}{a:Addr}{xs:List V}(e:Same H H')(h:SqL K H a xs):SqL K H' a xs:=by
 rcases h with (h|⟨o,h⟩) | h
 ·exact .inl (.inl (e _ _ h))
 ·exact .inl (.inr ⟨o,e _ _ h⟩)
 ·exact .inr h
end L2
namespace FD
open PySem PySem.Spec PyProof.Rows L2
noncomputable abbrev St:=L2.St
inductive D where
 | non|bl (b:Bool) | int (i:Int) | str (x:Str) | lst (xs:List D) | tup (xs:List D) | scr (ns:List Int) | raw (v:V) | exc (c:Str) | dct (ks:List Key) (ds:List D)
inductive Rs (α:Type) where
 | ok (a:α) | ex (c:Str) | no
noncomputable def Rs.bind{α β:Type}(r:Rs α)(k:α→Rs β):Rs β:=match r with
 |.ok a=>k a
 |.ex c=>.ex c
 |.no=>.no
@[simp] theorem Rs.bind_ok{α β:Type}(a:α)(k:α→Rs β):(Rs.ok a).bind k=k a:=rfl
noncomputable def excIs(K:Frag)(a:Addr)(c:Str):Heap→Prop:=fun h=>∃oe cls vs,h.get? a=some oe∧oe.cls=cls∧oe.dict=none∧oe.data=.fields vs∧nsIn K mainGlobals c=some (some cls)
section
variable(K:Frag)
mutual
noncomputable def Rep(F:Hp):D→V→Prop
 |.non,v=>v=.non
 |.bl b,v=>v=.bl b
 |.int i,v=>v=.int i
 |.str x,v=>v=.str x
 |.lst ds,v=>∃a vs,v=.ref a∧F a=some (.lst vs)∧Reps F ds vs
 |.scr ns,v=>∃a,v=.ref a∧SqL K F a (ns.map V.int)
 |.tup ds,v=>∃a vs,v=.ref a∧SqT K F a vs∧Reps F ds vs
 |.raw u,v=>v=u
 |.exc c,v=>∃a,v=.ref a∧F a=some (.ext (excIs K a c))
 |.dct ks ds,v=>∃a kvs o,v=.ref a∧F a=some (.frz o (.dK kvs))∧kvs.map (·.1)=ks∧Reps F ds (kvs.map (·.2))
noncomputable def Reps(F:Hp):List D→List V→Prop
 |[],vs=>vs=[]
 |d::ds,vs=>∃v r,vs=v::r∧Rep F d v∧Reps F ds r
end
end
theorem Same.refl(H:Hp):Same H H:=fun _ _ h=>h
theorem Same.seqT{K:Frag}{H H':Hp}{a:Addr}{xs:List V}(e:Same H H')(h:SqT K H a xs):SqT K H' a xs:=by
 rcases h with (h|⟨o,h⟩) | h
 ·exact .inl (.inl (e _ _ h))
 ·exact .inl (.inr ⟨o,e _ _ h⟩)
 ·exact .inr h
section
variable{K:Frag}{F F':Hp}
mutual
theorem Rep.mono(h:Same F F'):∀{d:D} {v:V},Rep K F d v→Rep K F' d v
 |.non,_,r=>by simpa only[Rep] using r
 |.bl _,_,r=>by simpa only[Rep] using r
 |.int _,_,r=>by simpa only[Rep] using r
 |.str _,_,r=>by simpa only[Rep] using r
 |.raw _,_,r=>by simpa only[Rep] using r
 |.exc c,v,r=>by
  simp only[Rep] at r ⊢
  obtain⟨a,e,q⟩:=r
  exact⟨a,e,h _ _ q⟩
 |.dct ks ds,v,r=>by
  simp only[Rep] at r ⊢
  obtain⟨a,kvs,o,e,q,k,t⟩:=r
  exact⟨a,kvs,o,e,h _ _ q,k,Reps.mono h t⟩
 |.lst ds,v,r=>by
  simp only[Rep] at r ⊢
  obtain⟨a,vs,e,q,t⟩:=r
  exact⟨a,vs,e,h _ _ q,Reps.mono h t⟩
 |.scr ns,v,r=>by
  simp only[Rep] at r ⊢
  obtain⟨a,e,q⟩:=r
  exact⟨a,e,h.seq q⟩
 |.tup ds,v,r=>by
  simp only[Rep] at r ⊢
  obtain⟨a,vs,e,q,t⟩:=r
  exact⟨a,vs,e,Same.seqT h q,Reps.mono h t⟩
theorem Reps.mono(h:Same F F'):∀{ds:List D} {vs:List V},Reps K F ds vs→Reps K F' ds vs
 |[],_,r=>by simpa only[Reps] using r
 |d::ds,vs,r=>by
  simp only[Reps] at r ⊢
  obtain⟨v,r',e,q,t⟩:=r
  exact⟨v,r',e,Rep.mono h q,Reps.mono h t⟩
end
theorem Reps.length:∀{ds:List D} {vs:List V},Reps K F ds vs→ds.length=vs.length
 |[],_,r=>by simp only[Reps] at r;subst r;rfl
 |d::ds,_,r=>by
  simp only[Reps] at r
  obtain⟨v,r',rfl,_,t⟩:=r
  simp[Reps.length t]
theorem Reps.get:∀{ds:List D} {vs:List V} {i:Nat} {d:D},Reps K F ds vs→ds[i]?=some d→∃v,vs[i]?=some v∧Rep K F d v
 |[],_,_,_,_,e=>by simp at e
 |d::ds,_,0,_,r,e=>by
  simp only[Reps] at r
  obtain⟨v,r',rfl,q,t⟩:=r
  simp at e;subst e
  exact⟨v,rfl,q⟩
 |d::ds,_,i+1,_,r,e=>by
  simp only[Reps] at r
  obtain⟨v,r',rfl,q,t⟩:=r
  obtain⟨w,h1,h2⟩:=Reps.get (i:=i) t (by simpa using e)
  exact⟨w,by simpa using h1,h2⟩
theorem Reps.nil:Reps K F [] []:=by simp only[Reps]
theorem Reps.cons{d:D}{v:V}{ds:List D}{vs:List V}(h:Rep K F d v)(t:Reps K F ds vs):Reps K F (d::ds) (v::vs):=by
 simp only[Reps];exact⟨v,vs,rfl,h,t⟩
theorem Reps.append:∀{ds es:List D} {vs ws:List V},Reps K F ds vs→Reps K F es ws→Reps K F (ds++es) (vs++ws)
 |[],_,_,_,r,t=>by simp only[Reps] at r;subst r;exact t
 |d::ds,es,_,ws,r,t=>by
  simp only[Reps] at r
  obtain⟨v,r',rfl,q,u⟩:=r
  exact Reps.cons q (Reps.append u t)
theorem Reps.take:∀{ds:List D} {vs:List V} (n:Nat),Reps K F ds vs→Reps K F (ds.take n) (vs.take n)
 |_,_,0,_=>by simp only[List.take_zero];exact Reps.nil
 |[],_,n+1,r=>by simp only[Reps] at r;subst r;simp only[List.take_nil];exact Reps.nil
 |d::ds,_,n+1,r=>by
  simp only[Reps] at r
  obtain⟨v,r',rfl,q,u⟩:=r
  exact Reps.cons q (Reps.take n u)
theorem Reps.drop:∀{ds:List D} {vs:List V} (n:Nat),Reps K F ds vs→Reps K F (ds.drop n) (vs.drop n)
 |_,_,0,r=>r
 |[],_,n+1,r=>by simp only[Reps] at r;subst r;simp only[List.drop_nil];exact Reps.nil
 |d::ds,_,n+1,r=>by
  simp only[Reps] at r
  obtain⟨v,r',rfl,q,u⟩:=r
  exact Reps.drop n u
theorem Reps.set{d:D}{v:V}(h:Rep K F d v):∀{ds:List D} {vs:List V} (i:Nat),Reps K F ds vs→Reps K F (ds.set i d) (vs.set i v)
 |[],_,_,r=>by simp only[Reps] at r;subst r;exact Reps.nil
 |e::ds,_,0,r=>by
  simp only[Reps] at r
  obtain⟨w,r',rfl,q,u⟩:=r
  exact Reps.cons h u
 |e::ds,_,i+1,r=>by
  simp only[Reps] at r
  obtain⟨w,r',rfl,q,u⟩:=r
  exact Reps.cons q (Reps.set h i u)
theorem Reps.one{d:D}{vs:List V}(h:Reps K F [d] vs):∃v,vs=[v]∧Rep K F d v:=by
 simp only[Reps] at h
 obtain⟨v,r,e,q,e2⟩:=h
 subst e2;exact⟨v,e,q⟩
theorem Reps.two{d e:D}{vs:List V}(h:Reps K F [d,e] vs):∃v w,vs=[v,w]∧Rep K F d v∧Rep K F e w:=by
 simp only[Reps] at h
 obtain⟨v,r,e1,q,w,r2,e2,q2,e3⟩:=h
 subst e3;subst e2;exact⟨v,w,e1,q,q2⟩
theorem Reps.rep{ds:List D}{vs:List V}(h:Reps K F ds vs):∀k:Nat,Reps K F (List.replicate k ds).flatten (List.replicate k vs).flatten:=by
 intro l_
 induction l_ with
 |zero=>
  exact Reps.nil
 |succ k ih_=>
  rw[replicate_succ,replicate_succ,flatten_cons,flatten_cons]
  exact Reps.append h (ih_)
theorem Reps.ints:∀(ns:List Int),Reps K F (ns.map D.int) (ns.map V.int):=by
 intro l_
 induction l_ with
 |nil=>
  exact Reps.nil
 |cons n r ih_=>
  exact Reps.cons (by simp only[Rep]) (ih_)
end
class Tabs where
 rows:List (Addr×Nat×Nat×Str)
 own:Str→Str→Bool
noncomputable def Tn(c:Addr)(q:Str):Heap→Prop:=fun h=>h.CodeRec (.ref c) q
noncomputable def TOk(F H:Hp)(r:Addr×Nat×Nat×Str):Prop:=F r.1=none∧(H r.1=some (.tbl #[])∨∃c,H r.1=some (.tbl #[rawInt r.2.1,rawInt r.2.2.1,.ref c])∧H c=some (.ext (Tn c r.2.2.2)))
variable[Tabs]
noncomputable def OwnOk(H:Hp):Prop:=∀d a,H d=some (.own a)→∃C dx vs,H a=some (.ins C dx vs)
noncomputable def TbT(F H:Hp):Prop:=(∀r∈Tabs.rows,TOk F H r)∧OwnOk H
omit [Tabs] in
theorem TOk.step{F H F' H':Hp}{r:Addr×Nat×Nat×Str}(t:TOk F H r)(nw:∀a o,F' a=some o→F a=some o∨H a=none)(k:∀a o,H a=some o→(∀vs,o≠.lst vs)→H' a=some o):TOk F' H' r:=by
 have hn:∀ps,H r.1=some (.tbl ps)→F' r.1=none:=fun ps e=>by
  cases q:F' r.1 with
  |none=>rfl
  |some o=>
   rcases nw _ _ q with z|z
   ·rw[t.1] at z;cases z
   ·rw[e] at z;cases z
 rcases t.2 with e|⟨c,e,e2⟩
 ·exact⟨hn _ e,.inl (k _ _ e fun _ z=>nomatch z)⟩
 ·exact⟨hn _ e,.inr ⟨c,k _ _ e (fun _ z=>nomatch z),k _ _ e2 fun _ z=>nomatch z⟩⟩
theorem TbT.step{F H F' H':Hp}(t:TbT F H)(nw:∀a o,F' a=some o→F a=some o∨H a=none)(k:∀a o,H a=some o→(∀vs,o≠.lst vs)→H' a=some o)(no:∀d a,H' d=some (.own a)→H d=some (.own a)):TbT F' H':=⟨fun r hr=>(t.1 r hr).step nw k,fun d a e=>by
 obtain⟨C,dx,vs,h⟩:=t.2 d a (no d a e)
 exact⟨C,dx,vs,k _ _ h fun _ z=>nomatch z⟩⟩
theorem TbT.freeze{F H:Hp}{a:Addr}{vs:List V}{o:HO}(t:TbT F H)(e:H a=some (.lst vs)):TbT (upd F a o) H:=⟨fun r hr=>by
 obtain⟨t1,t2⟩:=t.1 r hr
 have:r.1≠a:=fun z=>by
  rw[z,e] at t2
  rcases t2 with q|⟨c,q,_⟩ <;> cases q
 exact⟨by rw[zg this];exact t1,t2⟩,t.2⟩
noncomputable def Kp:HO→Option HO→Prop
 |.tbl _,r=>∃ps,r=some (.tbl ps)
 |o,r=>r=some o
noncomputable def Hh(H H':Hp):Prop:=∀b o,H b=some o→Kp o (H' b)
omit [Tabs] in
theorem Kp.of{o:HO}{r:Option HO}(h:r=some o):Kp o r:=by cases o <;> first|exact h|exact⟨_,h⟩
omit [Tabs] in
theorem Kp.some{o:HO}{r:Option HO}(h:Kp o r):r≠none:=by
 cases o <;> first | (obtain⟨_,h⟩:=h;rw[h];simp) | (have h:r=_:=h;rw[h];simp)
omit [Tabs] in
theorem Hh.of{H H':Hp}(h:Same H H'):Hh H H':=fun b o e=>.of (h b o e)
omit [Tabs] in
theorem Hh.refl(H:Hp):Hh H H:=.of (Same.refl H)
omit [Tabs] in
theorem Hh.trans{H H1 H2:Hp}(a:Hh H H1)(b:Hh H1 H2):Hh H H2:=fun c o e=>by
 have k:=a c o e
 cases o <;> first|exact b c _ k | (obtain⟨ps,q⟩:=k;show ∃ps,H2 c=some (.tbl ps);exact b c _ q)
omit [Tabs] in
theorem yx{F H:Hp}(h:Hh F H){a:Addr}(e:H a=none):F a=none:=by
 cases q:F a with
 |none=>rfl
 |some o=>exact absurd e (h a o q).some
structure Ext(F H F' H':Hp):Prop where
 ff:Same F F'
 hh:Hh H H'
 fh:Same F' H'
 nw:∀a o,F' a=some o→F a=some o∨H a=none
 tt:TbT F H→TbT F' H'
theorem Ext.refl{F H:Hp}(h:Same F H):Ext F H F H:=⟨Same.refl F,Hh.refl H,h,fun _ _ e=>.inl e,id⟩
theorem Ext.trans{F H F1 H1 F2 H2:Hp}(a:Ext F H F1 H1)(b:Ext F1 H1 F2 H2):Ext F H F2 H2:=
 ⟨a.ff.trans b.ff,a.hh.trans b.hh,b.fh,fun c o e=>by
  rcases b.nw c o e with q|q
  ·exact a.nw c o q
  ·exact .inr (yx a.hh q),fun t=>b.tt (a.tt t)⟩
omit [Tabs] in
theorem zA{F H:Hp}(h:Same F H){a:Addr}(e:H a=none):F a=none:=by
 cases q:F a with
 |none=>rfl
 |some o=>rw[h a o q] at e;cases e
omit [Tabs] in
theorem zS{H:Hp}{p:Addr}{o:HO}(h:H p=none):Same H (upd H p o):=fun b u q=>by rw[zg (zt q h)];exact q
omit [Tabs] in
theorem W5{F H:Hp}{p:Addr}{o:HO}(h:Same F H)(hp:H p=none):Same (upd F p o) (upd H p o):=fun b u q=>by
 by_cases hb:b=p
 ·subst hb;rw[zk] at q ⊢;exact q
 ·rw[zg hb] at q ⊢;exact h b u q
theorem Ext.same{F H F' H':Hp}(ff:Same F F')(hh:Same H H')(fh:Same F' H')(nw:∀a o,F' a=some o→F a=some o∨H a=none)(no:∀d a,H' d=some (.own a)→H d=some (.own a)):Ext F H F' H':=⟨ff,.of hh,fh,nw,fun t=>t.step nw (fun a o e _=>hh a o e) no⟩
omit [Tabs] in
theorem wD{H:Hp}{p:Addr}{o:HO}(ho:∀a,o≠.own a):∀d a,upd H p o d=some (.own a)→H d=some (.own a):=fun d a e=>by
 by_cases h:d=p
 ·subst h;rw[zk] at e;cases e;exact absurd rfl (ho a)
 ·rw[zg h] at e;exact e
theorem Ext.new{F H:Hp}{p:Addr}{o:HO}(h:Same F H)(hp:H p=none)(ho:∀a,o≠.own a:=by intro _ h;cases h):Ext F H (upd F p o) (upd H p o):=
 .same (zS (zA h hp)) (zS hp) (W5 h hp) (fun a u e=>by
  by_cases hb:a=p
  ·subst hb;exact .inr hp
  ·rw[zg hb] at e;exact .inl e) (wD ho)
inductive Sl where
 | val (d:D)
 | own (ds:List D)
 | obj (n:Nat) (c:Str) (fs:List (Str×D))
 | obr (c:Str) (fs:List (Str×D))
noncomputable abbrev DS:=List (Option Sl)
noncomputable def OwnF(K:Frag)(F H:Hp)(d:D)(v:V):Prop:=∃ds l ws,d=.lst ds∧v=.ref l∧H l=some (.lst ws)∧F l=none∧Reps K F ds ws
noncomputable def uM(K:Frag)(F H:Hp)(c f:Str)(d:D)(v:V):Prop:=if Tabs.own c f=true then OwnF K F H d v else Rep K F d v
noncomputable def Flds(K:Frag)(F H:Hp)(c:Str):List (Str×D)→List (Str×V)→Prop
 |[],[]=>True
 | (f,d)::r,(g,v)::s=>f=g∧uM K F H c f d v∧Flds K F H c r s
 |_,_=>False
noncomputable def z7(c:Str):List (Str×V)→List Addr
 |[]=>[]
 | (f,v)::r=>if Tabs.own c f=true then (match v with
  |.ref l=>l::z7 c r
  |_=>z7 c r) else z7 c r
noncomputable def Lof(H:Hp)(c:Str)(a:Addr):List Addr:=match H a with
 | some (.ins _ _ vs)=>z7 c vs
 |_=>[]
theorem Lof.ins{H:Hp}{c:Str}{a C dx:Addr}{vs:List (Str×V)}(h:H a=some (.ins C dx vs)):Lof H c a=z7 c vs:=by unfold Lof;rw[h]
theorem Flds.own{K:Frag}{F H:Hp}{c:Str}{l:Addr}:∀{fs:List (Str×D)} {vs:List (Str×V)},Flds K F H c fs vs→l∈z7 c vs→F l=none∧∃ws,H l=some (.lst ws)
 |[],[],_,h=>by cases h
 | (f,d)::r,(g,v)::s,q,h=>by
  obtain⟨rfl,q2,q3⟩:=q
  unfold z7 at h
  unfold uM at q2
  by_cases z:Tabs.own c f=true
  ·rw[if_pos z] at h q2
   obtain⟨ds,l',ws,e1,rfl,e3,e4,e5⟩:=q2
   rcases mem_cons.mp h with rfl|h
   ·exact⟨e4,ws,e3⟩
   ·exact Flds.own q3 h
  ·rw[if_neg z] at h
   exact Flds.own q3 h
 |[],_::_,q,_=>q.elim
 |_::_,[],q,_=>q.elim
theorem Flds.keep{K:Frag}{F H F' H':Hp}{c:Str}(hf:Same F F'):∀{fs:List (Str×D)} {vs:List (Str×V)},Flds K F H c fs vs→(∀l ws,l∈z7 c vs→H l=some (.lst ws)→F l=none→H' l=some (.lst ws)∧F' l=none)→Flds K F' H' c fs vs
 |[],[],_,_=>trivial
 | (f,d)::r,(g,v)::s,q,k=>by
  obtain⟨rfl,q2,q3⟩:=q
  refine⟨rfl,?_,Flds.keep hf q3 fun l ws hl=>k l ws ?_⟩
  ·unfold uM at q2 ⊢
   by_cases z:Tabs.own c f=true
   ·rw[if_pos z] at q2 ⊢
    obtain⟨ds,l,ws,e1,rfl,e3,e4,e5⟩:=q2
    obtain⟨k1,k2⟩:=k l ws (by unfold z7;rw[if_pos z];exact mem_cons_self) e3 e4
    exact⟨ds,l,ws,e1,rfl,k1,k2,e5.mono hf⟩
   ·rw[if_neg z] at q2 ⊢;exact q2.mono hf
  ·unfold z7
   by_cases z:Tabs.own c f=true
   ·rw[if_pos z]
    cases v with
    |ref l'=>exact mem_cons_of_mem _ hl
    |_=>exact hl
   ·rw[if_neg z];exact hl
 |[],_::_,q,_=>q.elim
 |_::_,[],q,_=>q.elim
noncomputable def Yb(K:Frag)(F H:Hp)(c:Str)(fs:List (Str×D))(a:Addr):Prop:=∃C dx vs,H a=some (.ins C dx vs)∧F a=none∧nsIn K mainGlobals c=some (some (.ref C))∧Flds K F H c fs vs∧H dx=some (.own a)∧(z7 c vs).Nodup
noncomputable def ObS(s:Option (Option Sl))(c:Str):Prop:=(∃n fs,s=some (some (.obj n c fs)))∨∃fs,s=some (some (.obr c fs))
structure ObsOk(K:Frag)(F:Hp)(τ:DS)(σ:St)(H:Hp):Prop where
 at_:∀(i n:Nat) (c:Str) (fs:List (Str×D)),τ[i]?=some (some (.obj n c fs))→∃a,σ[i]?=some (some (.ref a))∧Yb K F H c fs a
 dis:∀(i j n:Nat) (c c':Str) (fs:List (Str×D)) (a:Addr),i≠j→τ[i]?=some (some (.obj n c fs))→ObS τ[j]? c'→σ[i]?=some (some (.ref a))→σ[j]?=some (some (.ref a))→False
 rd:∀(i:Nat) (c:Str) (fs:List (Str×D)),τ[i]?=some (some (.obr c fs))→∃a C dx vs,σ[i]?=some (some (.ref a))∧H a=some (.ins C dx vs)∧nsIn K mainGlobals c=some (some (.ref C))∧Flds K F H c fs vs
 ll:∀(i j n:Nat) (c c':Str) (fs:List (Str×D)) (a a' l:Addr),i≠j→τ[i]?=some (some (.obj n c fs))→ObS τ[j]? c'→σ[i]?=some (some (.ref a))→σ[j]?=some (some (.ref a'))→l∈Lof H c a→l∈Lof H c' a'→False
 lo:∀(i j:Nat) (c:Str) (ds:List D) (a l:Addr),ObS τ[i]? c→τ[j]?=some (some (.own ds))→σ[i]?=some (some (.ref a))→σ[j]?=some (some (.ref l))→l∈Lof H c a→False
noncomputable def XB:Option Sl→Bool
 | some (.obj _ _ _)=>true
 | some (.obr _ _)=>true
 |_=>false
noncomputable def noObj(τ:DS):Prop:=∀(i:Nat) s,τ[i]?=some s→XB s=false
omit [Tabs] in
theorem noObj.obs{τ:DS}(n:noObj τ){i:Nat}{c:Str}(h:ObS τ[i]? c):False:=by
 rcases h with ⟨m,fs,h⟩|⟨fs,h⟩
 ·have:=n i _ h;cases this
 ·have:=n i _ h;cases this
theorem ObsOk.none{K:Frag}{F H:Hp}{τ:DS}{σ:St}(n:noObj τ):ObsOk K F τ σ H:=
 ⟨fun i m c fs h=>(by have:=n i _ h;cases this),fun i j m c c' fs a _ h=>(by have:=n i _ h;cases this),fun i c fs h=>(by have:=n i _ h;cases this),fun i j m c c' fs a a' l _ h=>(by have:=n i _ h;cases this),fun i j c ds a l h=>(n.obs h).elim⟩
theorem ObsOk.get{K:Frag}{F H:Hp}{τ:DS}{σ:St}{i:Nat}{c:Str}(o:ObsOk K F τ σ H)(h:ObS τ[i]? c):∃a C dx vs fs,σ[i]?=some (some (.ref a))∧H a=some (.ins C dx vs)∧Flds K F H c fs vs:=by
 rcases h with ⟨m,fs,h⟩|⟨fs,h⟩
 ·obtain⟨a,h1,C,dx,vs,h2,_,_,h5,_⟩:=o.at_ i m c fs h
  exact⟨a,C,dx,vs,fs,h1,h2,h5⟩
 ·obtain⟨a,C,dx,vs,h1,h2,_,h5⟩:=o.rd i c fs h
  exact⟨a,C,dx,vs,fs,h1,h2,h5⟩
theorem ObsOk.keep{K:Frag}{F H F' H':Hp}{τ:DS}{σ:St}(o:ObsOk K F τ σ H)(hf:Same F F')(hi:∀a C dx vs,H a=some (.ins C dx vs)→H' a=some (.ins C dx vs))(hn:∀a C dx vs,H a=some (.ins C dx vs)→F a=Option.none→F' a=Option.none)(hd:∀d a,H d=some (.own a)→H' d=some (.own a))
  (hl:∀(i:Nat) (c:Str) (a l:Addr) (ws:List V),ObS τ[i]? c→σ[i]?=some (some (.ref a))→l∈Lof H c a→H l=some (.lst ws)→F l=Option.none→H' l=some (.lst ws)∧F' l=Option.none):ObsOk K F' τ σ H':=by
 have lof:∀{i:Nat} {c:Str} {a:Addr},ObS τ[i]? c→σ[i]?=some (some (.ref a))→Lof H' c a=Lof H c a:=fun {i c a} h e=>by
  obtain⟨a',C,dx,vs,fs,h1,h2,_⟩:=o.get h
  rw[e] at h1;cases h1
  rw[Lof.ins h2,Lof.ins (hi _ _ _ _ h2)]
 refine⟨fun i m c fs h=>?_,o.dis,fun i c fs h=>?_,fun i j m c c' fs a a' l hij h1 h2 h3 h4 h5 h6=>?_,fun i j c ds a l h1 h2 h3 h4 h5=>?_⟩
 ·obtain⟨a,h1,C,dx,vs,h2,h3,h4,h5,h6,h7⟩:=o.at_ i m c fs h
  exact⟨a,h1,C,dx,vs,hi _ _ _ _ h2,hn _ _ _ _ h2 h3,h4,h5.keep hf fun l ws q=>hl i c a l ws (.inl ⟨m,fs,h⟩) h1 (by rw[Lof.ins h2];exact q),hd _ _ h6,h7⟩
 ·obtain⟨a,C,dx,vs,h1,h2,h4,h5⟩:=o.rd i c fs h
  exact⟨a,C,dx,vs,h1,hi _ _ _ _ h2,h4,h5.keep hf fun l ws q=>hl i c a l ws (.inr ⟨fs,h⟩) h1 (by rw[Lof.ins h2];exact q)⟩
 ·rw[lof (.inl ⟨m,fs,h1⟩) h3] at h5
  rw[lof h2 h4] at h6
  exact o.ll i j m c c' fs a a' l hij h1 h2 h3 h4 h5 h6
 ·rw[lof h1 h3] at h5
  exact o.lo i j c ds a l h1 h2 h3 h4 h5
theorem ObsOk.ext{K:Frag}{F H F' H':Hp}{τ:DS}{σ:St}(o:ObsOk K F τ σ H)(x:Ext F H F' H'):ObsOk K F' τ σ H':=by
 have nF:∀{a:Addr} {u:HO},H a=some u→F a=Option.none→F' a=Option.none:=fun {a u} h h3=>by
  cases q:F' a with
  |none=>rfl
  |some w=>
   rcases x.nw a w q with z|z
   ·rw[h3] at z;cases z
   ·rw[h] at z;cases z
 exact o.keep x.ff (fun a C dx vs h=>x.hh _ _ h) (fun a C dx vs h=>nF h) (fun d a h=>x.hh _ _ h) fun i c a l ws _ _ _ h h3=>⟨x.hh _ _ h,nF h h3⟩
theorem ObsOk.updL{K:Frag}{F H:Hp}{τ:DS}{σ:St}{p:Addr}{u:HO}(o:ObsOk K F τ σ H)(hl:H p=.none∨∃vs,H p=some (.lst vs))(hp:∀(i:Nat) (c:Str) (a:Addr),ObS τ[i]? c→σ[i]?=some (some (.ref a))→p∉Lof H c a):ObsOk K F τ σ (upd H p u):=by
 have ne:∀{a:Addr} {w:HO},H a=some w→(∀vs,w≠.lst vs)→a≠p:=fun {a w} h n z=>by
  subst z
  rcases hl with z|⟨ws,z⟩
  ·rw[z] at h;cases h
  ·rw[z] at h;cases h;exact n _ rfl
 refine o.keep (Same.refl F) (fun a C dx vs h=>?_) (fun a C dx vs _ h=>h) (fun d a h=>?_) fun i c a l ws h1 h2 h3 h4 h5=>⟨?_,h5⟩
 ·rw[zg (ne h fun _ z=>nomatch z)];exact h
 ·rw[zg (ne h fun _ z=>nomatch z)];exact h
 ·have:l≠p:=fun z=>by subst z;exact hp i c a h1 h2 h3
  rw[zg this];exact h4
omit [Tabs] in
theorem zU{τ:DS}{i j:Nat}{s u:Option Sl}(hs:XB s=false)(hu:XB u=true)(h:(τ.set i s)[j]?=some u):i≠j∧τ[j]?=some u:=by
 by_cases hij:i=j
 ·subst hij
  rw[getElem?_set] at h
  simp only[if_true] at h
  split at h
  ·cases h;rw[hs] at hu;cases hu
  ·cases h
 ·rw[getElem?_set_ne hij] at h;exact⟨hij,h⟩
omit [Tabs] in
theorem wM{τ:DS}{i j:Nat}{s:Option Sl}{c:Str}(hs:XB s=false)(h:ObS (τ.set i s)[j]? c):i≠j∧ObS τ[j]? c:=by
 rcases h with ⟨n,fs,h⟩|⟨fs,h⟩
 ·obtain⟨a,b⟩:=zU hs rfl h;exact⟨a,.inl ⟨n,fs,b⟩⟩
 ·obtain⟨a,b⟩:=zU hs rfl h;exact⟨a,.inr ⟨fs,b⟩⟩
theorem ObsOk.put{K:Frag}{F H:Hp}{τ:DS}{σ:St}{i:Nat}{s:Option Sl}{v:Option V}(o:ObsOk K F τ σ H)(hs:XB s=false)(hw:∀ds l,s=some (.own ds)→v=some (.ref l)→∀(j:Nat) (c:Str) (a:Addr),ObS τ[j]? c→σ[j]?=some (some (.ref a))→l∉Lof H c a):ObsOk K F (τ.set i s) (σ.set i v) H:=
 ⟨fun j m c fs h=>by
  obtain⟨n,h⟩:=zU hs rfl h
  rw[getElem?_set_ne n];exact o.at_ j m c fs h,
  fun j k m c c' fs a hjk h1 h2 h3 h4=>by
   obtain⟨n1,h1⟩:=zU hs rfl h1
   obtain⟨n2,h2⟩:=wM hs h2
   rw[getElem?_set_ne n1] at h3
   rw[getElem?_set_ne n2] at h4
   exact o.dis j k m c c' fs a hjk h1 h2 h3 h4,
  fun j c fs h=>by
   obtain⟨n,h⟩:=zU hs rfl h
   rw[getElem?_set_ne n];exact o.rd j c fs h,
  fun j k m c c' fs a a' l hjk h1 h2 h3 h4=>by
   obtain⟨n1,h1⟩:=zU hs rfl h1
   obtain⟨n2,h2⟩:=wM hs h2
   rw[getElem?_set_ne n1] at h3
   rw[getElem?_set_ne n2] at h4
   exact o.ll j k m c c' fs a a' l hjk h1 h2 h3 h4,
  fun j k c ds a l h1 h2 h3 h4 h5=>by
   obtain⟨n1,g1⟩:=wM hs h1
   rw[getElem?_set_ne n1] at h3
   by_cases e:i=k
   ·subst e
    rw[getElem?_set] at h2 h4
    simp only[if_true] at h2 h4
    split at h2
    ·split at h4
     ·exact hw ds l (by simpa using h2) (by simpa using h4) j c a g1 h3 h5
     ·cases h4
    ·cases h2
   ·rw[getElem?_set_ne e] at h2 h4
    exact o.lo j k c ds a l g1 h2 h3 h4 h5⟩
theorem ObsOk.putS{K:Frag}{F H:Hp}{τ:DS}{σ:St}{i:Nat}{ds es:List D}(o:ObsOk K F τ σ H)(hi:τ[i]?=some (some (.own ds))):ObsOk K F (τ.set i (some (.own es))) σ H:=
 ⟨fun j m c fs h=>o.at_ j m c fs (zU (s:=some (.own es)) rfl rfl h).2,fun j k m c c' fs a hjk h1 h2=>o.dis j k m c c' fs a hjk (zU (s:=some (.own es)) rfl rfl h1).2 (wM (s:=some (.own es)) rfl h2).2,fun j c fs h=>o.rd j c fs (zU (s:=some (.own es)) rfl rfl h).2,
  fun j k m c c' fs a a' l hjk h1 h2=>o.ll j k m c c' fs a a' l hjk (zU (s:=some (.own es)) rfl rfl h1).2 (wM (s:=some (.own es)) rfl h2).2,fun j k c ds' a l h1 h2 h3 h4 h5=>by
   have h1:=(wM (s:=some (.own es)) rfl h1).2
   by_cases e:i=k
   ·subst e;exact o.lo j i c ds a l h1 hi h3 h4 h5
   ·rw[getElem?_set_ne e] at h2;exact o.lo j k c ds' a l h1 h2 h3 h4 h5⟩
theorem ObsOk.fresh{K:Frag}{F H:Hp}{τ:DS}{σ:St}{p:Addr}(o:ObsOk K F τ σ H)(hp:H p=.none):∀(i:Nat) (c:Str) (a:Addr),ObS τ[i]? c→σ[i]?=some (some (.ref a))→p∉Lof H c a:=fun i c a h e hl=>by
 obtain⟨a',C,dx,vs,fs,h1,h2,h3⟩:=o.get h
 rw[e] at h1;cases h1
 rw[Lof.ins h2] at hl
 obtain⟨_,ws,q⟩:=h3.own hl
 rw[hp] at q;cases q
theorem ObsOk.lof{K:Frag}{F H:Hp}{τ:DS}{σ:St}{i:Nat}{c:Str}{a p:Addr}{u:HO}(o:ObsOk K F τ σ H)(h1:ObS τ[i]? c)(h2:σ[i]?=some (some (.ref a)))(hl:H p=.none∨∃vs,H p=some (.lst vs)):Lof (upd H p u) c a=Lof H c a:=by
 obtain⟨a',C,dx,vs,fs,h3,h4,_⟩:=o.get h1
 rw[h2] at h3;cases h3
 have:a≠p:=fun z=>by
  subst z
  rcases hl with z|⟨ws,z⟩
  ·rw[z] at h4;cases h4
  ·rw[z] at h4;cases h4
 rw[Lof.ins h4,Lof.ins (show upd H p u a=some (.ins C dx vs) by rw[zg this];exact h4)]
structure RV(K:Frag)(F:Hp)(τ:DS)(σ:St)(H:Hp):Prop where
 fh:Same F H
 len:τ.length=σ.length
 val:∀(i:Nat) (d:D),τ[i]?=some (some (.val d))→∃v,σ[i]?=some (some v)∧Rep K F d v
 own:∀(i:Nat) (ds:List D),τ[i]?=some (some (.own ds))→∃a vs,σ[i]?=some (some (.ref a))∧H a=some (.lst vs)∧F a=none∧Reps K F ds vs
 dis:∀(i j:Nat) (ds es:List D) (a:Addr),i≠j→τ[i]?=some (some (.own ds))→τ[j]?=some (some (.own es))→σ[i]?=some (some (.ref a))→σ[j]?=some (some (.ref a))→False
 tt:TbT F H
 ob:ObsOk K F τ σ H
theorem RV.ext{K:Frag}{F H F' H':Hp}{τ:DS}{σ:St}(R:RV K F τ σ H)(x:Ext F H F' H'):RV K F' τ σ H':=
 ⟨x.fh,R.len,fun i d e=>by
  obtain⟨v,h1,h2⟩:=R.val i d e
  exact⟨v,h1,h2.mono x.ff⟩,
  fun i ds e=>by
   obtain⟨a,vs,h1,h2,h3,h4⟩:=R.own i ds e
   refine⟨a,vs,h1,x.hh _ _ h2,?_,h4.mono x.ff⟩
   cases q:F' a with
   |none=>rfl
   |some o=>
    rcases x.nw a o q with z|z
    ·rw[h3] at z;cases z
    ·rw[h2] at z;exact absurd z (by simp),
  R.dis,x.tt R.tt,R.ob.ext x⟩
structure RS(K:Frag)(B Z F:Hp)(τ:DS)(σ:St)(H:Hp):Prop where
 rv:RV K F τ σ H
 bh:Hh B H
 zf:Same Z F
 nb:∀a o,F a=some o→Z a=some o∨B a=none
 ob:∀(i:Nat) (ds:List D) (a:Addr),τ[i]?=some (some (.own ds))→σ[i]?=some (some (.ref a))→B a=none
 oo:∀(i n:Nat) (c:Str) (fs:List (Str×D)) (a:Addr),τ[i]?=some (some (.obj n c fs))→σ[i]?=some (some (.ref a))→B a=none∧∀l∈Lof H c a,B l=none
 sf:∀(a0 dx:Addr),B dx=some (.own a0)→B a0=none→∀(i n:Nat) (c:Str) (fs:List (Str×D)),τ[i]?=some (some (.obj (n+1) c fs))→σ[i]?=some (some (.ref a0))
 ro:∀(i:Nat) (c:Str) (fs:List (Str×D)) (a:Addr),τ[i]?=some (some (.obr c fs))→σ[i]?=some (some (.ref a))→∃C dx vs,B a=some (.ins C dx vs)∧∀l∈z7 c vs,∃ws,B l=some (.lst ws)
theorem RS.ext{K:Frag}{B Z F H F' H':Hp}{τ:DS}{σ:St}(R:RS K B Z F τ σ H)(x:Ext F H F' H'):RS K B Z F' τ σ H':=
 ⟨R.rv.ext x,R.bh.trans x.hh,R.zf.trans x.ff,fun a o e=>by
  rcases x.nw a o e with q|q
  ·exact R.nb a o q
  ·exact .inr (yx R.bh q),R.ob,fun i n c fs a h1 h2=>by
  obtain⟨q1,q2⟩:=R.oo i n c fs a h1 h2
  refine⟨q1,fun l hl=>q2 l ?_⟩
  obtain⟨a',h3,C,dx,vs,h4,_⟩:=R.rv.ob.at_ i n c fs h1
  rw[h2] at h3;cases h3
  rw[Lof.ins h4]
  rw[Lof.ins (x.hh _ _ h4:H' a=some (.ins C dx vs))] at hl
  exact hl,R.sf,R.ro⟩
theorem RS.out{K:Frag}{B Z F H:Hp}{τ:DS}{σ:St}(R:RS K B Z F τ σ H):Ext Z B F H:=⟨R.zf,R.bh,R.rv.fh,R.nb,fun _=>R.rv.tt⟩
noncomputable def Xob(X:Cx)(c:Str):Prop:=∀e s',X.xe e s'
noncomputable def Ok(X:Cx){α:Type}(r:Rs α)(P:α→Prop):Prop:=match r with
 |.ok a=>P a
 |.ex c=>Xob X c
 |.no=>False
theorem Ok.bind{X:Cx}{α β:Type}{r:Rs α}{k:α→Rs β}{P:β→Prop}(h:Ok X (r.bind k) P):Ok X r fun a=>Ok X (k a) P:=by
 cases r <;> exact h
theorem Ok.imp{X:Cx}{α:Type}{r:Rs α}{P Q:α→Prop}(h:Ok X r P)(f:∀a,P a→Q a):Ok X r Q:=by
 cases r with
 |ok a=>exact f a h
 |ex c=>exact h
 |no=>exact h
noncomputable abbrev FE:=DS→Rs D
noncomputable abbrev FA:=DS→Rs (List D)
noncomputable abbrev FT:=DS→Rs Bool
noncomputable def Ev(K:Frag)(F H:Hp)(Q:VK)(d:D):Prop:=∀v F' H',Ext F H F' H'→Rep K F' d v→Q v H'
noncomputable def Evs(K:Frag)(F H:Hp)(Q:List V→Hp→Prop)(ds:List D):Prop:=∀vs F' H',Ext F H F' H'→Reps K F' ds vs→Q vs H'
noncomputable def Evb(F H:Hp)(Q:Bool→Hp→Prop)(b:Bool):Prop:=∀F' H',Ext F H F' H'→Q b H'
theorem Ev.ext{K:Frag}{F H F1 H1:Hp}{Q:VK}{d:D}(h:Ev K F H Q d)(x:Ext F H F1 H1):Ev K F1 H1 Q d:=fun v F' H' y r=>h v F' H' (x.trans y) r
theorem Evb.ext{F H F1 H1:Hp}{Q:Bool→Hp→Prop}{d:Bool}(h:Evb F H Q d)(x:Ext F H F1 H1):Evb F1 H1 Q d:=fun F' H' y=>h F' H' (x.trans y)
noncomputable def tE(X:Cx)(f:FE):TE:=fun σ H Q=>∃F τ,RV X.K F τ σ H∧Ok X (f τ) (Ev X.K F H Q)
noncomputable def tAs(X:Cx)(f:FA):TA:=fun σ H Q=>∃F τ,RV X.K F τ σ H∧Ok X (f τ) (Evs X.K F H Q)
noncomputable def tTs(X:Cx)(f:FT):TT:=fun σ H Q=>∃F τ,RV X.K F τ σ H∧Ok X (f τ) (Evb F H Q)
noncomputable def PDE(X:Cx)(e:Expr)(f:FE):Prop:=PE X e (tE X f)
noncomputable def PDA(X:Cx)(e:List Expr)(f:FA):Prop:=PA X e (tAs X f)
noncomputable def PDT(X:Cx)(e:Expr)(f:FT):Prop:=PT X e (tTs X f)
noncomputable def PDW(X:Cx)(e:Expr)(f:FT):Prop:=PW X e (tTs X f)
theorem _root_.L2.PE.imp{X:Cx}{e:Expr}{t t':TE}(h:PE X e t)(f:∀σ H Q,t' σ H Q→t σ H Q):PE X e t':=fun pins s σ H Q I q=>h pins s σ H Q I (f _ _ _ q)
theorem _root_.L2.PT.imp{X:Cx}{e:Expr}{t t':TT}(h:PT X e t)(f:∀σ H Q,t' σ H Q→t σ H Q):PT X e t':=fun pins s σ H Q I q=>h pins s σ H Q I (f _ _ _ q)
theorem _root_.L2.PW.imp{X:Cx}{e:Expr}{t t':TT}(h:PW X e t)(f:∀σ H Q,t' σ H Q→t σ H Q):PW X e t':=fun w pins s σ H Q I q=>h w pins s σ H Q I (f _ _ _ q)
theorem _root_.L2.PA.imp{X:Cx}{e:List Expr}{t t':TA}(h:PA X e t)(f:∀σ H Q,t' σ H Q→t σ H Q):PA X e t':=fun p pins s σ H Q I q=>h p pins s σ H Q I (f _ _ _ q)
theorem _root_.L2.PS.imp{X:Cx}{e:Stmt}{t t':TS}(h:PS X e t)(f:∀E σ H,t' E σ H→t E σ H):PS X e t':=fun pins s σ H Q I q=>h pins s σ H Q I (f _ _ _ q)
theorem _root_.L2.PSs.imp{X:Cx}{e:List Stmt}{t t':TS}(h:PSs X e t)(f:∀E σ H,t' E σ H→t E σ H):PSs X e t':=fun pins s σ H Q I q=>h pins s σ H Q I (f _ _ _ q)
theorem tE.of{X:Cx}{f:FE}{F H:Hp}{τ:DS}{σ:St}{Q:VK}{G:D→Prop}(R:RV X.K F τ σ H)(h:Ok X (f τ) G)
  (k:∀d v F1 H1,G d→Ext F H F1 H1→RV X.K F1 τ σ H1→Rep X.K F1 d v→Q v H1):tE X f σ H Q:=
 ⟨F,τ,R,h.imp fun d g v F1 H1 x r=>k d v F1 H1 g x (R.ext x) r⟩
theorem tAs.of{X:Cx}{f:FA}{F H:Hp}{τ:DS}{σ:St}{Q:List V→Hp→Prop}{G:List D→Prop}(R:RV X.K F τ σ H)(h:Ok X (f τ) G)
  (k:∀d v F1 H1,G d→Ext F H F1 H1→RV X.K F1 τ σ H1→Reps X.K F1 d v→Q v H1):tAs X f σ H Q:=
 ⟨F,τ,R,h.imp fun d g v F1 H1 x r=>k d v F1 H1 g x (R.ext x) r⟩
theorem tTs.of{X:Cx}{f:FT}{F H:Hp}{τ:DS}{σ:St}{Q:Bool→Hp→Prop}{G:Bool→Prop}(R:RV X.K F τ σ H)(h:Ok X (f τ) G)
  (k:∀b F1 H1,G b→Ext F H F1 H1→RV X.K F1 τ σ H1→Q b H1):tTs X f σ H Q:=
 ⟨F,τ,R,h.imp fun d g F1 H1 x=>k d F1 H1 g x (R.ext x)⟩
noncomputable def zc(i:Nat):FE:=fun τ=>match τ[i]? with
 | some (some (.val d))=>.ok d
 |_=>.no
section
variable{X:Cx}{pos:Pos}
theorem zb{i:Nat}{x:Str}(h:PE X (.Name x pos) (xB i)):PDE X (.Name x pos) (zc i):=h.imp fun σ H Q z_=>by
 obtain⟨F,τ,R,q⟩:=z_
 unfold zc at q
 cases e:τ[i]? with
 |none=>rw[e] at q;exact q.elim
 |some o=>
  cases o with
  |none=>rw[e] at q;exact q.elim
  |some sl=>
   cases sl with
   |own ds=>rw[e] at q;exact q.elim
   |obj n c fs=>rw[e] at q;exact q.elim
   |obr c fs=>rw[e] at q;exact q.elim
   |val d=>
    rw[e] at q
    obtain⟨v,h1,h2⟩:=R.val i d e
    exact⟨v,h1,q v F H (Ext.refl R.fh) h2⟩
noncomputable def eC(d:D):FE:=fun _=>.ok d
theorem Wn{e:Expr}{v:V}{d:D}(h:PE X e (tC v))(r:∀F,Rep X.K F d v):PDE X e (eC d):=h.imp fun σ H Q z_=>by obtain⟨F,τ,R,q⟩:=z_;exact q v F H (Ext.refl R.fh) (r F)
theorem zn{i j}:PDE X (.Constant (.int i) j pos) (eC (.int i)):=Wn Xq fun _=>by simp only[Rep]
theorem xG{i j}:PDE X (.Constant (.bool i) j pos) (eC (.bl i)):=Wn pe_bl fun _=>by simp only[Rep]
theorem xz{i j}:PDE X (.Constant (.str i) j pos) (eC (.str i)):=Wn Mq fun _=>by simp only[Rep]
end
noncomputable def OpD(X:Cx)(g:Value→Value→Sem Value)(op:D→D→Rs D):Prop:=∃r:R2,OpR X g r ∧
 ∀F H x y dx dy Q,Same F H→Rep X.K F dx x→Rep X.K F dy y→Ok X (op dx dy) (Ev X.K F H Q)→r x y H Q
noncomputable def eOp(op:D→D→Rs D)(fa fb:FE):FE:=fun τ=>(fa τ).bind fun x=>(fb τ).bind fun y=>op x y
section
variable{X:Cx}{pos:Pos}{a b c:Expr}{fa fb fc:FE}
theorem Wq{r:R2}{op:D→D→Rs D}(hl:∀F H x y dx dy Q,Same F H→Rep X.K F dx x→Rep X.K F dy y→Ok X (op dx dy) (Ev X.K F H Q)→r x y H Q)
  (σ:St) (H:Hp) (Q:VK) (h:tE X (eOp op fa fb) σ H Q):tOp r (tE X fa) (tE X fb) σ H Q:=by
 obtain⟨F,τ,R,h⟩:=h
 refine tE.of R h.bind fun x u F1 H1 g x1 R1 r1=>?_
 refine tE.of R1 g.bind fun y v F2 H2 g2 x2 R2 r2=>?_
 exact hl F2 H2 u v x y Q R2.fh (r1.mono x2.ff) r2 (g2.imp fun d e=>e.ext (x1.trans x2))
theorem zr{o:Operator}{op:D→D→Rs D}(ho:OpD X (binaryOp o) op)(ha:PDE X a fa)(hb:PDE X b fb):PDE X (.BinOp a o b pos) (eOp op fa fb):=by
 obtain⟨r,h1,h2⟩:=ho
 exact(GK h1 ha hb).imp (Wq h2)
theorem Qz{o:CmpOp}{op:D→D→Rs D}(ho:OpD X (compareOp o) op)(ha:PDE X a fa)(hb:PDE X b fb)(hm:behindInMarks o b=false):PDE X (.Compare a [o] [b] pos) (eOp op fa fb):=by
 obtain⟨r,h1,h2⟩:=ho
 exact(Qn h1 ha hb hm).imp (Wq h2)
noncomputable def tB(f:FE):FT:=fun τ=>(f τ).bind fun d=>match d with
 |.bl b=>.ok b
 |_=>.no
theorem JN{t:FE}{u:TE}(hi:∀σ H Q,tE X t σ H Q→u σ H Q)(σ:St)(H:Hp)(Q:Bool→Hp→Prop)(h:tTs X (tB t) σ H Q):GF u σ H Q:=by
 obtain⟨F,τ,R,h⟩:=h
 refine hi σ H _ (tE.of R h.bind fun d v F1 H1 g x R1 r=>?_)
 cases d with
 |bl k=>simp only[Rep] at r;exact⟨k,r,g F1 H1 x⟩
 |_=>exact g.elim
theorem yi{o:CmpOp}{op:D→D→Rs D}(ho:OpD X (compareOp o) op)(ha:PDE X a fa)(hb:PDE X b fb)(hm:behindInMarks o b=false):PDT X (.Compare a [o] [b] pos) (tB (eOp op fa fb)):=by
 obtain⟨r,h1,h2⟩:=ho
 exact(Wc h1 ha hb hm).imp (JN (Wq h2))
noncomputable def jJ:D→Rs Bool
 |.non=>.ok false
 |.bl b=>.ok b
 |.int i=>.ok (i != 0)
 |.str x=>if x.length≤sizeLine then .ok ((x.length:Int) != 0) else .no
 |.lst ds=>.ok (!ds.isEmpty)
 |.tup ds=>.ok (!ds.isEmpty)
 |.scr ns=>.ok (!ns.isEmpty)
 |.raw _=>.no
 |.exc _=>.no
 |.dct _ _=>.no
theorem vS{K:Frag}{F:Hp}{ds:List D}{vs:List V}(h:Reps K F ds vs):ds.isEmpty=vs.isEmpty:=by
 have:=h.length
 cases ds <;> cases vs <;> simp_all
theorem VX{F H:Hp}{d:D}{v:V}{Q:Bool→Hp→Prop}(fh:Same F H)(r:Rep X.K F d v)(h:Ok X (jJ d) (fun b=>Q b H)):∃k,Tu X.K v H k∧Q k H:=by
 cases d with
 |non=>simp only[Rep] at r;subst r;exact⟨_,rfl,h⟩
 |bl b=>simp only[Rep] at r;subst r;exact⟨_,rfl,h⟩
 |int i=>simp only[Rep] at r;subst r;exact⟨_,rfl,h⟩
 |str x=>
  simp only[Rep] at r;subst r
  (delta jJ at h;dsimp only at h)
  by_cases z:x.length≤sizeLine
  ·rw[if_pos z] at h;exact⟨_,⟨z,rfl⟩,h⟩
  ·rw[if_neg z] at h;exact h.elim
 |lst ds=>
  simp only[Rep] at r;obtain⟨a,vs,rfl,e,q⟩:=r
  refine⟨!vs.isEmpty,.inl ⟨vs,SqL.of (fh _ _ e),rfl⟩,?_⟩
  rw[← vS q];exact h
 |tup ds=>
  simp only[Rep] at r;obtain⟨a,vs,rfl,e,q⟩:=r
  refine⟨!vs.isEmpty,.inr (.inl ⟨vs,Same.seqT fh e,rfl⟩),?_⟩
  rw[← vS q];exact h
 |scr ns=>
  simp only[Rep] at r;obtain⟨a,rfl,e⟩:=r
  refine⟨!(ns.map V.int).isEmpty,.inl ⟨_,fh.seq e,rfl⟩,?_⟩
  have e2:(ns.map V.int).isEmpty=ns.isEmpty:=by cases ns <;> rfl
  rw[e2];exact h
 |raw u=>exact h.elim
 |exc c=>exact h.elim
 |dct _ _=>exact h.elim
noncomputable def u4(f:FE):FT:=fun τ=>(f τ).bind jJ
theorem uR(ha:PDE X a fa)(he:∀whole,isTrue a X.env whole=(do let v ← whole;standAt a.pos;holding [v] (truthy v)):=by intro _;rfl):PDT X a (u4 fa):=
 (Uk ha he).imp fun σ H Q z_=>by obtain⟨F,τ,R,h⟩:=z_;exact tE.of R h.bind fun d v F1 H1 g x R1 r=>VX R1.fh r (g.imp fun b e=>e F1 H1 x)
noncomputable def xC(f g:FT):FT:=fun τ=>(f τ).bind fun b=>if b=true then g τ else .ok false
noncomputable def Ye(f:FT):FT:=fun τ=>(f τ).bind fun b=>.ok (!b)
variable{ga gb:FT}{rest:List Expr}
theorem vF(ha:PDT X a ga):PDW X (.BoolOp .And [a] pos) ga:=Wb ha
theorem uQ(ha:PDT X a ga)(hb:PDW X (.BoolOp .And (b::rest) pos) gb):PDW X (.BoolOp .And (a::b::rest) pos) (xC ga gb):=
 PW.imp (Ui ha hb) fun σ H Q z_=>by
  obtain⟨F,τ,R,h⟩:=z_
  refine tTs.of R h.bind fun k F1 H1 g x R1=>?_
  cases k with
  |true=>rw[if_pos rfl];rw[if_pos rfl] at g;exact⟨F1,τ,R1,g.imp fun d e=>e.ext x⟩
  |false=>rw[if_neg (by simp)];rw[if_neg (by simp)] at g;exact g F1 H1 x
theorem Wj{e:Expr}(h:PDW X e ga):PDT X e ga:=PW.pt h
theorem Qp(ha:PDT X a ga):PDT X (.UnaryOp .Not a pos) (Ye ga):=
 PT.imp (Mf ha) fun σ H Q z_=>by obtain⟨F,τ,R,h⟩:=z_;exact tTs.of R h.bind fun k F1 H1 g x R1=>g F1 H1 x
noncomputable def eOr(fa fb:FE):FE:=fun τ=>(fa τ).bind fun x=>(jJ x).bind fun b=>if b=true then .ok x else fb τ
theorem Qv{op}(h:PDE X a fa):PDE X (.BoolOp op [a] pos) fa:=Mr h
theorem My(ha:PDE X a fa)(hb:PDE X (.BoolOp .Or (b::rest) pos) fb):PDE X (.BoolOp .Or (a::b::rest) pos) (eOr fa fb):=by
 rintro pins s σ H Q I ⟨F,τ,R,h⟩
 refine BoolOp_or (thn (ha pins s σ H _ I (tE.of R h.bind fun d v F1 H1 g x R1 r=>(⟨d,F1,g,x,R1,r⟩:∃d F1,Ok X ((jJ d).bind fun b=>if b=true then .ok d else fb τ) (Ev X.K F H Q)∧Ext F H F1 H1∧RV X.K F1 τ σ H1∧Rep X.K F1 d v))) fun v s1 z_=>?_)
 obtain⟨x,H1,I1,r1,d,F1,g,x1,R1,r⟩:=z_
 refine thn (VW pins s1 σ H1 x v (fun b H2=>H2=H1∧Ok X (if b=true then .ok d else fb τ) (Ev X.K F H Q)) I1 r1 (VX (Q:=fun b H2=>H2=H1∧Ok X (if b=true then .ok d else fb τ) (Ev X.K F H Q)) R1.fh r (g.bind.imp fun b e=>⟨rfl,e⟩))) fun k s2 z_=>?_
 obtain⟨H2,I2,e2,q⟩:=z_
 subst e2
 cases k with
 |false=>rw[if_neg (by simp)] at q ⊢;exact hb pins s2 σ _ Q I2 ⟨F1,τ,R1,q.imp fun d e=>e.ext x1⟩
 |true=>rw[if_pos rfl] at q ⊢;exact⟨x,_,I2,r1,q x F1 _ x1 r⟩
end
section
variable{X:Cx}{pos:Pos}{e:Expr}{es:List Expr}{fe:FE}{fs:FA}
noncomputable def zm:FA:=fun _=>.ok []
noncomputable def za(f:FE)(g:FA):FA:=fun τ=>(f τ).bind fun x=>(g τ).bind fun r=>.ok (x::r)
theorem zp:PDA X [] zm:=PA.imp jg fun σ H Q z_=>by obtain⟨F,τ,R,h⟩:=z_;exact h [] F H (Ext.refl R.fh) Reps.nil
theorem ze(ha:PDE X e fe)(hr:PDA X es fs)(hs:starEach (e::es) X.env=(false,eval e X.env)::starEach es X.env:=by rfl):PDA X (e::es) (za fe fs):=
 PA.imp (vH ha hr hs) fun σ H Q ⟨F,τ,R,h⟩=>tE.of R h.bind fun x v F1 H1 g x1 R1 r1=>tAs.of R1 g.bind fun ys vs F2 H2 g2 x2 R2 r2=>
  g2 (v::vs) F2 H2 (x1.trans x2) (Reps.cons (r1.mono x2.ff) r2)
noncomputable def ur(f:FA):FE:=fun τ=>(f τ).bind fun ds=>if ds.length≤sizeLine then .ok (.tup ds) else .no
noncomputable def vW(f:FA):FE:=fun τ=>(f τ).bind fun ds=>if ds.length≤sizeLine then .ok (.lst ds) else .no
theorem z6{X:Cx}{α:Type}{c:Prop}[Decidable c]{a:α}{P:α→Prop}(h:Ok X (if c then .ok a else .no) P):c∧P a:=by
 by_cases z:c
 ·rw[if_pos z] at h;exact⟨z,h⟩
 ·rw[if_neg z] at h;exact h.elim
theorem ZN{x1}(h:PDA X es fs):PDE X (.Tuple es x1 pos) (ur fs):=
 PE.imp (Mp h) fun σ H Q z_=>by
  obtain⟨F,τ,R,hq⟩:=z_
  refine tAs.of R hq.bind fun ds vs F1 H1 g x R1 r=>?_
  obtain⟨z,g⟩:=z6 g
  refine⟨by rw[← r.length];exact z,fun p hp=>g (.ref p) _ _ (x.trans (Ext.new R1.fh hp)) ?_⟩
  simp only[Rep]
  exact⟨p,vs,rfl,SqT.of zk,r.mono (zS (zA R1.fh hp))⟩
theorem uS(h:PDA X es fs):PDE X (.List es pos) (vW fs):=
 PE.imp (Ms h) fun σ H Q z_=>by
  obtain⟨F,τ,R,hq⟩:=z_
  refine tAs.of R hq.bind fun ds vs F1 H1 g x R1 r=>?_
  obtain⟨z,g⟩:=z6 g
  refine⟨by rw[← r.length];exact z,fun p hp=>g (.ref p) _ _ (x.trans (Ext.new R1.fh hp)) ?_⟩
  simp only[Rep]
  exact⟨p,vs,rfl,zk,r.mono (zS (zA R1.fh hp))⟩
end
inductive Fl where
 | nx (τ:DS) | rt (d:D) | bk (τ:DS) | ct (τ:DS) | ex (c:Str) | no
 | rs (c:Str) (τ:DS)
 | ro (d:D) (τ:DS)
 | rb (i:Nat) (τ:DS)
noncomputable def Nw(X:Cx)(H:Hp)(b:Addr):Prop:=H b=none∧X.s₀.heap.get? b=none∧∀p∈X.pn,p.1≠b
noncomputable def ExcAt(X:Cx)(H:Hp)(h:Heap)(a:Addr)(cls:Value):Prop:=Nw X H a∧∃oe vs,h.get? a=some oe∧oe.cls=cls∧oe.dict=none∧oe.data=.fields vs ∧
 (vs[1]?=some .none∨∃T oT ts fl,vs[1]?=some (.ref T)∧Nw X H T∧T≠a∧h.get? T=some oT∧oT.data=.fields ts∧ts[3]?=some fl)∧vs[2]?=some .none
noncomputable def XA(X:Cx)(c:Str)(σ:St)(H:Hp):Prop:=∀s a cls,nsIn X.K mainGlobals c=some (some cls)→Inv X [] σ H s→ExcAt X H s.heap a cls→X.xe (.ref a) s
noncomputable abbrev FS:=DS→Fl
noncomputable def Post(X:Cx)(B Z F:Hp)(E:jW):Fl→Prop
 |.nx τ=>∀σ F' H',Same F F'→RS X.K B Z F' τ σ H'→E.nx σ H'
 |.bk τ=>∀σ F' H',Same F F'→RS X.K B Z F' τ σ H'→E.bk σ H'
 |.ct τ=>∀σ F' H',Same F F'→RS X.K B Z F' τ σ H'→E.ct σ H'
 |.rt d=>∀v F' H',Ext Z B F' H'→Rep X.K F' d v→E.rt v H'
 |.ex c=>Xob X c
 |.no=>False
 |.rs c τ=>∀σ F' H',Same F F'→RS X.K B Z F' τ σ H'→XA X c σ H'
 |.ro d τ=>∀v σ F' H',Same F F'→RS X.K B Z F' τ σ H'→Rep X.K F' d v→E.rt v H'
 |.rb i τ=>∀v σ F' H',Same F F'→RS X.K B Z F' τ σ H'→σ[i]?=some (some v)→E.rt v H'
theorem Post.same{X:Cx}{B Z F F1:Hp}{E:jW}{r:Fl}(h:Post X B Z F E r)(f:Same F F1):Post X B Z F1 E r:=by
 cases r with
 |nx τ=>exact fun σ F' H' g R=>h σ F' H' (f.trans g) R
 |bk τ=>exact fun σ F' H' g R=>h σ F' H' (f.trans g) R
 |ct τ=>exact fun σ F' H' g R=>h σ F' H' (f.trans g) R
 |rt d=>exact h
 |ex c=>exact h
 |no=>exact h
 |rs c τ=>exact fun σ F' H' g R=>h σ F' H' (f.trans g) R
 |ro d τ=>exact fun v σ F' H' g R r=>h v σ F' H' (f.trans g) R r
 |rb i τ=>exact fun v σ F' H' g R r=>h v σ F' H' (f.trans g) R r
noncomputable def tS(X:Cx)(f:FS):TS:=fun E σ H=>∃B Z F τ,RS X.K B Z F τ σ H∧Post X B Z F E (f τ)
noncomputable def PDS(X:Cx)(st:Stmt)(f:FS):Prop:=PS X st (tS X f)
noncomputable def wy(X:Cx)(st:List Stmt)(f:FS):Prop:=PSs X st (tS X f)
noncomputable def Fl.of{α:Type}(r:Rs α)(k:α→Fl):Fl:=match r with
 |.ok a=>k a
 |.ex c=>.ex c
 |.no=>.no
@[simp] theorem Fl.of_ok{α:Type}(a:α)(k:α→Fl):Fl.of (.ok a) k=k a:=rfl
theorem Post.of{X:Cx}{B Z F:Hp}{E:jW}{α:Type}{r:Rs α}{k:α→Fl}(h:Post X B Z F E (Fl.of r k)):Ok X r fun a=>Post X B Z F E (k a):=by
 cases r <;> exact h
section
variable{X:Cx}{pos:Pos}{e:Expr}{es:List Expr}{fe:FE}{fs:FA}{st:Stmt}{rest:List Stmt}{f g:FS}{c:Expr}{gc:FT}
noncomputable def zY:FS:=fun τ=>.nx τ
noncomputable def zJ(f g:FS):FS:=fun τ=>match f τ with
 |.nx τ'=>g τ'
 |r=>r
theorem yA:wy X [] zY:=PSs.imp Qc fun E σ H z_=>by obtain⟨B,Z,F,τ,R,h⟩:=z_;exact h σ F H (Same.refl F) R
theorem zv(h:PDS X st f):wy X [st] f:=wN h
theorem zq(h1:PDS X st f)(h2:wy X rest g):wy X (st::rest) (zJ f g):=
 PSs.imp (wC h1 h2) fun E σ H z_=>by
  obtain⟨B,Z,F,τ,R,h⟩:=z_
  refine⟨B,Z,F,τ,R,?_⟩
  unfold zJ at h
  cases q:f τ with
  |nx τ'=>rw[q] at h;exact fun σ' F' H' ff R'=>⟨B,Z,F',τ',R',Post.same h ff⟩
  |rt d=>rw[q] at h;exact h
  |bk d=>rw[q] at h;exact h
  |ct d=>rw[q] at h;exact h
  |ex d=>rw[q] at h;exact h
  |no=>rw[q] at h;exact h
  |rs c d=>rw[q] at h;exact h
  |ro c d=>rw[q] at h;exact h
  |rb c d=>rw[q] at h;exact h
noncomputable def yD(fe:FE):FS:=fun τ=>Fl.of (fe τ) fun d=>.rt d
theorem tE.at{B Z F H:Hp}{τ:DS}{σ:St}{Q:VK}{G:D→Prop}(R:RS X.K B Z F τ σ H)(h:Ok X (fe τ) G)
  (k:∀d v F1 H1,G d→Ext F H F1 H1→RS X.K B Z F1 τ σ H1→Rep X.K F1 d v→Q v H1):tE X fe σ H Q:=
 tE.of R.rv h fun d v F1 H1 g x _ r=>k d v F1 H1 g x (R.ext x) r
theorem zX(he:PDE X e fe):PDS X (.Return (some e) pos) (yD fe):=
 PS.imp (u9 he) fun E σ H z_=>by obtain⟨B,Z,F,τ,R,h⟩:=z_;exact tE.at R h.of fun d v F1 H1 g x R1 r=>g v F1 H1 R1.out r
noncomputable def sIf(gc:FT)(f g:FS):FS:=fun τ=>Fl.of (gc τ) fun b=>if b=true then f τ else g τ
theorem xF{a b:List Stmt}(hc:PDT X c gc)(ha:wy X a f)(hb:wy X b g):PDS X (.If c a b pos) (sIf gc f g):=
 PS.imp (GI hc ha hb) fun E σ H z_=>by
  obtain⟨B,Z,F,τ,R,h⟩:=z_
  refine tTs.of R.rv h.of fun k F1 H1 q x _=>?_
  cases k with
  |true=>rw[if_pos rfl] at q ⊢;exact⟨B,Z,F1,τ,R.ext x,q.same x.ff⟩
  |false=>rw[if_neg (by simp)] at q ⊢;exact⟨B,Z,F1,τ,R.ext x,q.same x.ff⟩
theorem RV.set{K:Frag}{F H:Hp}{τ:DS}{σ:St}{i:Nat}{d:D}{v:V}(R:RV K F τ σ H)(r:Rep K F d v):RV K F (τ.set i (some (.val d))) (σ.set i (some v)) H:=by
 refine⟨R.fh,by simp[R.len],fun j e h=>?_,fun j es h=>?_,fun j k ds es a hjk h1 h2 h3 h4=>?_,?_,?_⟩
 ·by_cases hij:i=j
  ·subst hij
   have hlt:i<τ.length:=by
    rcases lt_or_ge i τ.length with z|z
    ·exact z
    ·rw[List.getElem?_eq_none_iff.mpr (by simpa using z)] at h;cases h
   rw[getElem?_set_self hlt] at h
   cases h
   exact⟨v,by rw[getElem?_set_self (by rw[← R.len];exact hlt)],r⟩
  ·rw[getElem?_set_ne hij] at h ⊢
   exact R.val j e h
 ·by_cases hij:i=j
  ·subst hij
   rw[getElem?_set] at h
   simp only[if_true] at h
   split at h <;> cases h
  ·rw[getElem?_set_ne hij] at h ⊢
   exact R.own j es h
 ·have n1:i≠j:=fun z=>by
   subst z
   rw[getElem?_set] at h1
   simp only[if_true] at h1
   split at h1 <;> cases h1
  have n2:i≠k:=fun z=>by
   subst z
   rw[getElem?_set] at h2
   simp only[if_true] at h2
   split at h2 <;> cases h2
  rw[getElem?_set_ne n1] at h1 h3
  rw[getElem?_set_ne n2] at h2 h4
  exact R.dis j k ds es a hjk h1 h2 h3 h4
 ·exact R.tt
 ·exact R.ob.put rfl fun _ _ z=>by cases z
theorem RS.set{K:Frag}{B Z F H:Hp}{τ:DS}{σ:St}{i:Nat}{d:D}{v:V}(R:RS K B Z F τ σ H)(r:Rep K F d v):RS K B Z F (τ.set i (some (.val d))) (σ.set i (some v)) H:=
 ⟨R.rv.set r,R.bh,R.zf,R.nb,fun j ds a h1 h2=>by
  have n1:i≠j:=fun z=>by
   subst z
   rw[getElem?_set] at h1
   simp only[if_true] at h1
   split at h1 <;> cases h1
  rw[getElem?_set_ne n1] at h1 h2
  exact R.ob j ds a h1 h2,fun j m c fs a h1 h2=>by
  obtain⟨n,h1⟩:=zU (s:=some (.val d)) rfl rfl h1
  rw[getElem?_set_ne n] at h2
  exact R.oo j m c fs a h1 h2,fun a0 dx b1 b2 j m c fs h=>by
  obtain⟨n,h⟩:=zU (s:=some (.val d)) rfl rfl h
  rw[getElem?_set_ne n]
  exact R.sf a0 dx b1 b2 j m c fs h,fun j c fs a h1 h2=>by
  obtain⟨n,h1⟩:=zU (s:=some (.val d)) rfl rfl h1
  rw[getElem?_set_ne n] at h2
  exact R.ro j c fs a h1 h2⟩
noncomputable def yF(i:Nat)(fe:FE):FS:=fun τ=>Fl.of (fe τ) fun d=>.nx (τ.set i (some (.val d)))
theorem zW{i:Nat}{x:Str}{pos':Pos}(hN:X.N.Nodup)(hi:X.N[i]?=some x)(hx:Loc X.env.scope x)(he:PDE X e fe)(hs:swapsWith e (some (.Name x pos')) pos.line X.env=pure false:=by rfl)(hf:X.fn x=true∨X.env.scope.names.lookup x=some .local:=by first|exact .inl rfl|exact .inr rfl|assumption) :
  PDS X (.Assign [.Name x pos'] e pos) (yF i fe):=
 PS.imp (ZK hN hi hx he hs hf) fun E σ H z_=>by obtain⟨B,Z,F,τ,R,h⟩:=z_;exact tE.at R h.of fun d v F1 H1 g x R1 r=>g _ F1 H1 x.ff (R1.set r)
noncomputable def tFr(X:Cx)(f:FA):TE:=fun σ H Q=>∃F τ,RV X.K F τ σ H∧Ok X (f τ) fun ds=>∀p vs F' H',Ext F H F' H'→H' p=none→Reps X.K F' ds vs→Q (.ref p) (upd H' p (.lst vs))
noncomputable def PDF(X:Cx)(e:Expr)(f:FA):Prop:=PE X e (tFr X f)
theorem ud{ff:FA}(h:PDF X e ff):PDE X e (fun τ=>(ff τ).bind fun ds=>.ok (.lst ds)):=
 PE.imp h fun σ H Q ⟨F,τ,R,hq⟩=>⟨F,τ,R,hq.bind.imp fun ds g p vs F1 H1 x hp r=>by
  refine g (.ref p) _ _ (x.trans (Ext.new x.fh hp)) ?_
  simp only[Rep]
  exact⟨p,vs,rfl,zk,r.mono (zS (zA x.fh hp))⟩⟩
noncomputable def Yn(i:Nat)(ff:FA):FS:=fun τ=>Fl.of (ff τ) fun ds=>.nx (τ.set i (some (.own ds)))
theorem RV.setO{K:Frag}{F H:Hp}{τ:DS}{σ:St}{i:Nat}{p:Addr}{ds:List D}{vs:List V}(R:RV K F τ σ H)(hp:H p=none)(r:Reps K F ds vs):RV K F (τ.set i (some (.own ds))) (σ.set i (some (.ref p))) (upd H p (.lst vs)):=by
 have nofr:=zA R.fh hp
 have hlt:∀{o:Sl},(τ.set i (some (.own ds)))[i]?=some (some o)→i<τ.length:=fun {o} h=>by
  rcases lt_or_ge i τ.length with z|z
  ·exact z
  ·rw[List.getElem?_eq_none_iff.mpr (by simpa using z)] at h;cases h
 refine⟨R.fh.trans (zS hp),by simp[R.len],fun j e h=>?_,fun j es h=>?_,fun j k es es' a hjk h1 h2 h3 h4=>?_,?_,?_⟩
 ·by_cases hij:i=j
  ·subst hij
   rw[getElem?_set_self (hlt h)] at h;cases h
  ·rw[getElem?_set_ne hij] at h ⊢
   exact R.val j e h
 ·by_cases hij:i=j
  ·subst hij
   have l:=hlt h
   rw[getElem?_set_self l] at h
   cases h
   exact⟨p,vs,by rw[getElem?_set_self (by rw[← R.len];exact l)],zk,nofr,r⟩
  ·rw[getElem?_set_ne hij] at h ⊢
   obtain⟨a,ws,q1,q2,q3,q4⟩:=R.own j es h
   exact⟨a,ws,q1,by rw[zg (zt q2 hp)];exact q2,q3,q4⟩
 ·by_cases n1:i=j
  ·subst n1
   rw[getElem?_set_ne hjk] at h2 h4
   obtain⟨a',ws,q1,q2,q3,q4⟩:=R.own k es' h2
   rw[q1] at h4;cases h4
   have l:=hlt h1
   rw[getElem?_set_self (by rw[← R.len];exact l)] at h3
   cases h3
   rw[hp] at q2;cases q2
  ·by_cases n2:i=k
   ·subst n2
    rw[getElem?_set_ne (Ne.symm hjk)] at h1 h3
    obtain⟨a',ws,q1,q2,q3,q4⟩:=R.own j es h1
    rw[q1] at h3;cases h3
    have l:=hlt h2
    rw[getElem?_set_self (by rw[← R.len];exact l)] at h4
    cases h4
    rw[hp] at q2;cases q2
   ·rw[getElem?_set_ne n1] at h1 h3
    rw[getElem?_set_ne n2] at h2 h4
    exact R.dis j k es es' a hjk h1 h2 h3 h4
 ·exact R.tt.step (fun _ _ e=>.inl e) (fun b o e _=>by rw[zg (zt e hp)];exact e) (wD fun _ z=>nomatch z)
 ·have o1:ObsOk K F (τ.set i (some (.own ds))) (σ.set i (some (.ref p))) H:=R.ob.put rfl fun _ l _ z=>by
   cases z;exact R.ob.fresh hp
  exact o1.updL (.inl hp) (o1.fresh hp)
theorem RS.setO{K:Frag}{B Z F H:Hp}{τ:DS}{σ:St}{i:Nat}{p:Addr}{ds:List D}{vs:List V}(R:RS K B Z F τ σ H)(hp:H p=none)(r:Reps K F ds vs):RS K B Z F (τ.set i (some (.own ds))) (σ.set i (some (.ref p))) (upd H p (.lst vs)):=
 ⟨R.rv.setO hp r,R.bh.trans (.of (zS hp)),R.zf,R.nb,fun j es a h1 h2=>by
  by_cases n1:i=j
  ·subst n1
   have l:i<τ.length:=by
    rcases lt_or_ge i τ.length with z|z
    ·exact z
    ·rw[List.getElem?_eq_none_iff.mpr (by simpa using z)] at h1;cases h1
   rw[getElem?_set_self (by rw[← R.rv.len];exact l)] at h2
   cases h2
   exact yx R.bh hp
  ·rw[getElem?_set_ne n1] at h1 h2
   exact R.ob j es a h1 h2,fun j m c fs a h1 h2=>by
  obtain⟨n,h1⟩:=zU (s:=some (.own ds)) rfl rfl h1
  rw[getElem?_set_ne n] at h2
  rw[R.rv.ob.lof (.inl ⟨m,fs,h1⟩) h2 (.inl hp)]
  exact R.oo j m c fs a h1 h2,fun a0 dx b1 b2 j m c fs h=>by
  obtain⟨n,h⟩:=zU (s:=some (.own ds)) rfl rfl h
  rw[getElem?_set_ne n]
  exact R.sf a0 dx b1 b2 j m c fs h,fun j c fs a h1 h2=>by
  obtain⟨n,h1⟩:=zU (s:=some (.own ds)) rfl rfl h1
  rw[getElem?_set_ne n] at h2
  exact R.ro j c fs a h1 h2⟩
theorem RV.own_upd{K:Frag}{F H:Hp}{τ:DS}{σ:St}{i:Nat}{p:Addr}{ds es:List D}{ws:List V}(R:RV K F τ σ H)(h:τ[i]?=some (some (.own ds)))(hp:σ[i]?=some (some (.ref p)))(r:Reps K F es ws) :
  RV K F (τ.set i (some (.own es))) σ (upd H p (.lst ws)):=by
 obtain⟨a,vs,q1,q2,q3,q4⟩:=R.own i ds h
 rw[q1] at hp;cases hp
 have l:i<τ.length:=(List.getElem?_eq_some_iff.mp h).1
 refine⟨fun b o e=>?_,by simp[R.len],fun j e h'=>?_,fun j es' h'=>?_,fun j k e1 e2 b hjk h1 h2 h3 h4=>?_,?_,?_⟩
 ·have n:b≠p:=fun z=>by subst z;rw[q3] at e;cases e
  rw[zg n];exact R.fh b o e
 ·by_cases hij:i=j
  ·subst hij;rw[getElem?_set_self l] at h';cases h'
  ·rw[getElem?_set_ne hij] at h';exact R.val j e h'
 ·by_cases hij:i=j
  ·subst hij
   rw[getElem?_set_self l] at h';cases h'
   exact⟨p,ws,q1,zk,q3,r⟩
  ·rw[getElem?_set_ne hij] at h'
   obtain⟨a',vs',z1,z2,z3,z4⟩:=R.own j es' h'
   have n:a'≠p:=fun z=>by subst z;exact R.dis i j ds es' a' hij h h' q1 z1
   exact⟨a',vs',z1,by rw[zg n];exact z2,z3,z4⟩
 ·have:∀{m:Nat} {e:List D},(τ.set i (some (.own es)))[m]?=some (some (.own e))→∃e',τ[m]?=some (some (.own e')):=fun {m e} z=>by
   by_cases him:i=m
   ·subst him;exact⟨ds,h⟩
   ·rw[getElem?_set_ne him] at z;exact⟨e,z⟩
  obtain⟨x1,y1⟩:=this h1
  obtain⟨x2,y2⟩:=this h2
  exact R.dis j k x1 x2 b hjk y1 y2 h3 h4
 ·exact R.tt.step (fun _ _ e=>.inl e) (fun b o e n=>by
   have:b≠p:=fun z=>by subst z;rw[q2] at e;cases e;exact n _ rfl
   rw[zg this];exact e) (wD fun _ z=>nomatch z)
 ·exact(R.ob.updL (.inr ⟨vs,q2⟩) fun j c a g1 g2 hl=>R.ob.lo j i c ds a p g1 h g2 q1 hl).putS h
theorem RS.own_upd{K:Frag}{B Z F H:Hp}{τ:DS}{σ:St}{i:Nat}{p:Addr}{ds es:List D}{ws:List V}(R:RS K B Z F τ σ H)(h:τ[i]?=some (some (.own ds)))(hp:σ[i]?=some (some (.ref p)))(r:Reps K F es ws) :
  RS K B Z F (τ.set i (some (.own es))) σ (upd H p (.lst ws)):=by
 have hb:=R.ob i ds p h hp
 refine⟨R.rv.own_upd h hp r,fun b o e=>?_,R.zf,R.nb,fun j e a h1 h2=>?_,fun j m c fs a h1 h2=>?_,fun a0 dx b1 b2 j m c fs h=>R.sf a0 dx b1 b2 j m c fs (zU (s:=some (.own es)) rfl rfl h).2,fun j c fs a h1 h2=>R.ro j c fs a (zU (s:=some (.own es)) rfl rfl h1).2 h2⟩
 ·have n:b≠p:=fun z=>by subst z;rw[hb] at e;cases e
  rw[zg n];exact R.bh b o e
 ·by_cases him:i=j
  ·subst him;exact R.ob i ds a h h2
  ·rw[getElem?_set_ne him] at h1;exact R.ob j e a h1 h2
 ·have h1:=(zU (s:=some (.own es)) rfl rfl h1).2
  obtain⟨p',vs,q1,q2,_⟩:=R.rv.own i ds h
  rw[q1] at hp;cases hp
  rw[R.rv.ob.lof (.inl ⟨m,fs,h1⟩) h2 (.inr ⟨vs,q2⟩)]
  exact R.oo j m c fs a h1 h2
noncomputable def vK(τ:DS)(i:Nat):Rs (List D):=match τ[i]? with
 | some (some (.own ds))=>.ok ds
 |_=>.no
theorem vI{τ:DS}{i:Nat}{P:List D→Prop}(h:Ok X (vK τ i) P):∃ds,τ[i]?=some (some (.own ds))∧P ds:=by
 unfold vK at h
 cases q:τ[i]? with
 |none=>rw[q] at h;exact h.elim
 |some o=>
  cases o with
  |none=>rw[q] at h;exact h.elim
  |some sl=>
   cases sl with
   |val d=>rw[q] at h;exact h.elim
   |obj n c fs=>rw[q] at h;exact h.elim
   |obr c fs=>rw[q] at h;exact h.elim
   |own ds=>rw[q] at h;exact⟨ds,rfl,h⟩
noncomputable def W6(i:Nat)(fi fe:FE):FS:=fun τ=>Fl.of (fe τ) fun d=>Fl.of (vK τ i) fun ds=>Fl.of (fi τ) fun k=>match k with
 |.int k=>match ixN ds.length k with
  |some j=>.nx (τ.set i (some (.own (ds.set j d))))
  |none=>.no
 |_=>.no
theorem Qq{i:Nat}{x:Str}{p1 spos:Pos}{ix:Expr}{fi:FE}(hx:PE X (.Name x p1) (xB i))(hi:PDE X ix fi)(he:PDE X e fe)
  (ha:∀v,assign (.Subscript (.Name x p1) ix spos) X.env v=(do
   let ov ← holding [v] (eval (.Name x p1) X.env)
   let iv ← holding [v,ov] (eval ix X.env)
   standAt spos
   holding [v,ov,iv] (setItem ov iv v)
   release [v,ov,iv] []):=by intro _;rfl)
  (hs:swapsWithSole [.Subscript (.Name x p1) ix spos] e pos.line X.env=pure false:=by rfl) (hw:swappedStores [.Subscript (.Name x p1) ix spos] e X.env=pure none:=by rfl)
  (h1:(assignEach [.Subscript (.Name x p1) ix spos] X.env).map (·.2)=[assign (.Subscript (.Name x p1) ix spos) X.env]:=by rfl) :
  PDS X (.Assign [.Subscript (.Name x p1) ix spos] e pos) (W6 i fi fe):=
 PS.imp (Mh he (Mn hx hi V7 ha) hs hw h1) fun E σ H z_=>by
  obtain⟨B,Z,F,τ,R,h⟩:=z_
  refine tE.at R h.of fun d v F1 H1 g x R1 r=>?_
  obtain⟨ds,h1,h2⟩:=vI (X:=X) (Post.of g)
  obtain⟨a,vs,q1,q2,q3,q4⟩:=R1.rv.own i ds h1
  refine⟨_,q1,?_⟩
  refine tE.at R1 h2.of fun k w F2 H2 g2 x2 R2 r2=>?_
  cases k with
  |int k=>
   simp only[Rep] at r2
   simp only at g2
   cases q:ixN ds.length k with
   |none=>rw[q] at g2;exact g2.elim
   |some j=>
    rw[q] at g2
    refine⟨a,vs,k,j,rfl,r2,x2.hh _ _ q2,by rw[← q4.length];exact q,?_⟩
    exact g2 _ F2 _ (x.ff.trans x2.ff) (R2.own_upd h1 q1 (Reps.set (r.mono x2.ff) j (q4.mono x2.ff)))
  |_=>exact g2.elim
noncomputable def Yo(i:Nat):FS:=fun τ=>Fl.of (vK τ i) fun ds=>.rt (.lst ds)
theorem Us{i:Nat}{x:Str}{p1:Pos}(hx:PE X (.Name x p1) (xB i)):PDS X (.Return (some (.Name x p1)) pos) (Yo i):=
 PS.imp (u9 hx) fun E σ H z_=>by
  obtain⟨B,Z,F,τ,R,h⟩:=z_
  obtain⟨ds,h1,h2⟩:=vI (X:=X) (Post.of h)
  obtain⟨a,vs,q1,q2,q3,q4⟩:=R.rv.own i ds h1
  have hb:=R.ob i ds a h1 q1
  refine⟨_,q1,h2 (.ref a) (upd F a (.lst vs)) H ⟨?_,R.bh,fun b o e=>?_,fun b o e=>?_,fun _=>R.rv.tt.freeze q2⟩ ?_⟩
  ·exact R.zf.trans (zS q3)
  ·by_cases z:b=a
   ·subst z;rw[zk] at e;cases e;exact q2
   ·rw[zg z] at e;exact R.rv.fh b o e
  ·by_cases z:b=a
   ·subst z;exact .inr hb
   ·rw[zg z] at e;exact R.nb b o e
  ·simp only[Rep]
   exact⟨a,vs,rfl,zk,q4.mono (zS q3)⟩
noncomputable def VF(i:Nat)(fi:FE):FE:=fun τ=>(vK τ i).bind fun ds=>(fi τ).bind fun k=>match k with
 |.int k=>match atI ds k with
  |some d=>.ok d
  |none=>.no
 |_=>.no
theorem jG{K:Frag}{F:Hp}{ds:List D}{vs:List V}{k:Int}{d:D}(r:Reps K F ds vs)(h:atI ds k=some d):∃v,atI vs k=some v∧Rep K F d v:=by
 unfold atI at h ⊢
 rw[← r.length]
 cases q:ixN ds.length k with
 |none=>rw[q] at h;cases h
 |some j=>
  rw[q] at h
  exact r.get h
theorem Qx{i:Nat}{x:Str}{p1:Pos}{ix:Expr}{fi:FE}(hx:PE X (.Name x p1) (xB i))(hi:PDE X ix fi)(hs:Ya ix:=by intro _ _;rfl):PDE X (.Subscript (.Name x p1) ix pos) (VF i fi):=
 PE.imp (GL ix_list hx hi hs) fun σ H Q z_=>by
  obtain⟨F,τ,R,h⟩:=z_
  obtain⟨ds,h1,h2⟩:=vI (X:=X) (Ok.bind h)
  obtain⟨a,vs,q1,q2,q3,q4⟩:=R.own i ds h1
  refine⟨_,q1,?_⟩
  refine tE.of R h2.bind fun k w F2 H2 g2 x2 R2 r2=>?_
  cases k with
  |int k=>
   simp only[Rep] at r2
   simp only at g2
   cases q:atI ds k with
   |none=>rw[q] at g2;exact g2.elim
   |some d=>
    rw[q] at g2
    obtain⟨v,z1,z2⟩:=jG q4 q
    exact⟨a,vs,k,v,rfl,r2,SqL.of (x2.hh _ _ q2),z1,g2 v F2 H2 x2 (z2.mono x2.ff)⟩
  |_=>exact g2.elim
noncomputable def YY(i:Nat):FE:=fun τ=>(vK τ i).bind fun ds=>.ok (.int ds.length)
theorem Uz{i:Nat}{x:Str}{p1 p:Pos}(hx:PE X (.Name x p1) (xB i))(hg:Gl X "len")(hm:X.mg "len" = none)
  (he:starEach [.Name x p1] X.env=[(false,eval (.Name x p1) X.env)]:=by rfl) (hpl:(backTo pos (starEach [] X.env)).any (·.1)=false:=by rfl):PDE X (.Call (.Name "len" p) [.Name x p1] [] pos) (YY i):=
 PE.imp (pe_callB call_len_seq hg hm PySem.boot_len (vH hx jg (by rw[he];rfl)) (he:=by rw[he];rfl) (hpl:=hpl)) fun σ H Q z_=>by
  obtain⟨F,τ,R,h⟩:=z_
  obtain⟨ds,h1,h2⟩:=vI (X:=X) (Ok.bind h)
  obtain⟨a,vs,q1,q2,q3,q4⟩:=R.own i ds h1
  refine⟨_,q1,a,vs,rfl,.inl (SqL.of q2),?_⟩
  rw[← q4.length]
  exact h2 (.int ds.length) F H (Ext.refl R.fh) (by simp only[Rep])
end
noncomputable def XV(K:Frag)(J:It)(F1:Hp)(ds:List D):Prop:=∀(i:Nat) (F H:Hp),Same F1 F→Same F H →
 (ds.length≤i→J.stop i H)∧∀d,ds[i]?=some d→J.go i H∧∀x H',J.yld i H x H'→∃F',Ext F H F' H'∧Rep K F' d x
noncomputable def tI(X:Cx)(f:FA):TI:=fun σ H R=>∃F τ,RV X.K F τ σ H∧Ok X (f τ) fun ds=>∀J F1 H1,Ext F H F1 H1→XV X.K J F1 ds→R J H1
noncomputable def PDI(X:Cx)(tg iter:Expr)(f:FA):Prop:=PI X tg iter (tI X f)
theorem _root_.L2.PI.imp{X:Cx}{tg e:Expr}{t t':TI}(h:PI X tg e t)(f:∀σ H Q,t' σ H Q→t σ H Q):PI X tg e t':=fun pins s σ H Q I q=>h pins s σ H Q I (f _ _ _ q)
section
variable{X:Cx}{pos:Pos}{e tg:Expr}{es:List Expr}{fe:FE}{fs:FA}
theorem WH{K:Frag}{a:Addr}{F1:Hp}{ds:List D}{vs:List V}(e:SqL K F1 a vs)(r:Reps K F1 ds vs):XV K (Itl K a) F1 ds:=fun i F H f1 f2=>by
 have q:SqL K H a vs:=(f1.trans f2).seq e
 refine⟨fun h=>⟨vs,q,by rw[← r.length];exact h⟩,fun d hd=>?_⟩
 obtain⟨v,h1,h2⟩:=r.get hd
 refine⟨⟨vs,v,q,h1⟩,fun x H' y=>?_⟩
 obtain⟨e1,y⟩:=y
 subst e1
 have h3:=y vs q
 rw[h1] at h3;cases h3
 exact⟨F,Ext.refl f2,h2.mono f1⟩
theorem M5{K:Frag}{a:Addr}{F1:Hp}{ds:List D}{vs:List V}(e:SqT K F1 a vs)(r:Reps K F1 ds vs):XV K (Itt K a) F1 ds:=fun i F H f1 f2=>by
 have q:SqT K H a vs:=Same.seqT (f1.trans f2) e
 refine⟨fun h=>⟨vs,q,by rw[← r.length];exact h⟩,fun d hd=>?_⟩
 obtain⟨v,h1,h2⟩:=r.get hd
 refine⟨⟨vs,v,q,h1⟩,fun x H' y=>?_⟩
 obtain⟨e1,y⟩:=y
 subst e1
 have h3:=y vs q
 rw[h1] at h3;cases h3
 exact⟨F,Ext.refl f2,h2.mono f1⟩
noncomputable def Yr(lo:Int)(n:Nat):List D:=(List.range n).map fun (k:Nat)=>D.int (lo+k)
theorem M7{K:Frag}{F1:Hp}{lo:Int}{n:Nat}:XV K (Itr lo n) F1 (Yr lo n):=fun i F H f1 f2=>by
 have hl:(Yr lo n).length=n:=by simp[Yr]
 refine⟨fun h=>by rw[hl] at h;exact h,fun d hd=>?_⟩
 have hi:i<n:=by have:=(List.getElem?_eq_some_iff.mp hd).1;rw[hl] at this;exact this
 refine⟨hi,fun x H' y=>?_⟩
 obtain⟨e1,y⟩:=y
 subst e1
 refine⟨F,Ext.refl f2,?_⟩
 simp[Yr,hi] at hd
 subst hd
 simp only[Rep];exact y
noncomputable def Jd:List D→Option Int
 |[.int j]=>some j
 |_=>none
noncomputable def Jc:List D→Option (Int×Int)
 |[.int i,.int j]=>some (i,j)
 |_=>none
noncomputable def jf:D→Option (D×D)
 |.tup [x,y]=>some (x,y)
 |_=>none
theorem Ga{ds:List D}{j:Int}(h:Jd ds=some j):ds=[.int j]:=by
 unfold Jd at h;split at h <;> cases h;rfl
theorem Q9{ds:List D}{i j:Int}(h:Jc ds=some (i,j)):ds=[.int i,.int j]:=by
 unfold Jc at h;split at h <;> cases h;rfl
theorem UE{d x y:D}(h:jf d=some (x,y)):d=.tup [x,y]:=by
 unfold jf at h;split at h <;> cases h;rfl
noncomputable def uo(fs:FA):FA:=fun τ=>(fs τ).bind fun ds=>match Jd ds with
 |some j=>if -(2 ^ 62)≤j∧j<2 ^ 62 then .ok (Yr 0 j.toNat) else .no
 |none=>.no
theorem wk{a:Expr}{p:Pos}(hg:Gl X "range")(hm:X.mg "range" = none)(ha:PDA X [a] fs)(hs:starEach [a] X.env=[(false,eval a X.env)]:=by rfl):PDI X tg (.Call (.Name "range" p) [a] [] pos) (uo fs):=
 PI.imp (Vb hg hm ha hs) fun σ H R z_=>by
  obtain⟨F,τ,Rv,h⟩:=z_
  refine tAs.of Rv h.bind fun ds vs F1 H1 g x R1 r=>?_
  cases q1:Jd ds with
  |none=>rw[q1] at g;exact g.elim
  |some j=>
   rw[q1] at g
   have e:=Ga q1
   subst e
   obtain⟨v,rfl,q⟩:=r.one
   simp only[Rep] at q;subst q
   obtain⟨z,g⟩:=z6 g
   exact⟨j,rfl,z.1,z.2,g _ F1 H1 x M7⟩
noncomputable abbrev FG:=D→DS→Rs DS
noncomputable def tG(X:Cx)(set:FG):TG:=fun v σ H Q=>∃F τ d,RV X.K F τ σ H∧Rep X.K F d v∧Ok X (set d τ) fun τ'=>∀σ',RV X.K F τ' σ' H→(∀B Z,RS X.K B Z F τ σ H→RS X.K B Z F τ' σ' H)→σ'.length=σ.length→Q σ' H
noncomputable def PDG(X:Cx)(tg:Expr)(set:FG):Prop:=PG X tg (tG X set)
theorem _root_.L2.PG.imp{X:Cx}{e:Expr}{t t':TG}(h:PG X e t)(f:∀v σ H Q,t' v σ H Q→t v σ H Q):PG X e t':=fun pins s σ H v u Q I r q=>h pins s σ H v u Q I r (f _ _ _ _ q)
noncomputable def gNm(i:Nat):FG:=fun d τ=>.ok (τ.set i (some (.val d)))
theorem yJ{i:Nat}{x:Str}(hN:X.N.Nodup)(hi:X.N[i]?=some x)(hx:Loc X.env.scope x)(hf:X.fn x=true∨X.env.scope.names.lookup x=some .local:=by first|exact .inl rfl|exact .inr rfl|assumption):PDG X (.Name x pos) (gNm i):=
 PG.imp (vE hN hi hx hf) fun v σ H Q z_=>by obtain⟨F,τ,d,R,r,h⟩:=z_;exact h _ (R.set r) (fun B Z R'=>R'.set r) (by simp)
noncomputable def gPr(i j:Nat):FG:=fun d τ=>match jf d with
 | some (x,y)=>.ok ((τ.set i (some (.val x))).set j (some (.val y)))
 |none=>.no
theorem jc{i j k:Nat}{x y:Str}{px py:Pos}(hc:X.calm=true)(hN:X.N.Nodup)(hi:X.N[i]?=some x)(hx:Loc X.env.scope x)(hj:X.N[j]?=some y)(hy:Loc X.env.scope y)
  (hf:X.fn x=true∨X.env.scope.names.lookup x=some .local:=by first|exact .inl rfl|exact .inr rfl|assumption) (hf':X.fn y=true∨X.env.scope.names.lookup y=some .local:=by first|exact .inl rfl|exact .inr rfl|assumption) :
  PDG X (.Tuple [.Name x px,.Name y py] k pos) (gPr i j):=
 PG.imp (Mm (n:=2) hc (Yv (vE hN hi hx hf) (Yv (vE hN hj hy hf') Qi))) fun v σ H Q z_=>by
  obtain⟨F,τ,d,R,r,h⟩:=z_
  unfold gPr at h
  cases q1:jf d with
  |none=>rw[q1] at h;exact h.elim
  |some xy=>
   obtain⟨x,y⟩:=xy
   rw[q1] at h
   have e:=UE q1
   subst e
   simp only[Rep] at r
   obtain⟨a,vs,rfl,q,t⟩:=r
   obtain⟨v1,v2,rfl,r1,r2⟩:=t.two
   exact⟨a,_,rfl,Same.seqT R.fh q,rfl,v1,[v2],rfl,v2,[],rfl,rfl,h _ ((R.set r1).set r2) (fun B Z R'=>(R'.set r1).set r2) (by simp)⟩
noncomputable def yh(set:FG)(body:FS):List D→DS→Fl
 |[],τ=>.nx τ
 |d::r,τ=>Fl.of (set d τ) fun τ1=>match body τ1 with
  |.nx τ'=>yh set body r τ'
  |.ct τ'=>yh set body r τ'
  |.bk τ'=>.nx τ'
  |.rt d=>.rt d
  |.ro d τ'=>.ro d τ'
  |.rb d τ'=>.rb d τ'
  |.ex c=>.ex c
  |.no=>.no
  |.rs c τ'=>.rs c τ'
noncomputable def x6(fi:FA)(set:FG)(body:FS):FS:=fun τ=>Fl.of (fi τ) fun ds=>yh set body ds τ
theorem wj{iter:Expr}{body:List Stmt}{fi:FA}{set:FG}{fb:FS}(hp:PassesOwn (model X.prog X.w) X.A X.env X.xe)(hc:X.calm=true)(hi:PDI X tg iter fi)(hg:PDG X tg set)(hb:wy X body fb)
  (hs:∀x,foldedSetIterable iter X.env x=pure x:=by intro _;rfl):PDS X (.For tg iter body [] pos) (x6 fi set fb):=
 PS.imp (Xp hp hc hi hg hb hs) fun E σ H z_=>by
  obtain⟨B,Z,F,τ,R,h⟩:=z_
  refine⟨F,τ,R.rv,h.of.imp fun ds g J F1 H1 x io=>?_⟩
  refine⟨fun i m σ H=>m=ds.length-i∧i≤ds.length∧∃F' τ',Same F1 F'∧RS X.K B Z F' τ' σ H∧Post X B Z F' E (yh set fb (ds.drop i) τ'),⟨ds.length,by simp,zero_le _,F1,τ,Same.refl _,R.ext x,g.same x.ff⟩,?_⟩
  rintro i m σ2 H2 ⟨rfl,hi,F2,τ2,f2,R2,p2⟩
  obtain⟨i1,i2⟩:=io i F2 H2 f2 R2.rv.fh
  by_cases hlt:i<ds.length
  ·have hd:ds.drop i=ds[i]::ds.drop (i+1):=drop_eq_getElem_cons hlt
   rw[hd] at p2
   obtain⟨go,yl⟩:=i2 ds[i] (by simp[hlt])
   refine .inr ⟨go,fun σ' H'=>∃F' τ',Same F2 F'∧RS X.K B Z F' τ' σ' H'∧Post X B Z F' E (yh set fb (ds.drop (i+1)) τ'),fun σ' H' ⟨F',τ',a,b,c⟩=>⟨ds.length-(i+1),by lia,rfl,hlt,F',τ',f2.trans a,b,c⟩,fun y H' yy=>?_⟩
   obtain⟨F3,x3,r3⟩:=yl y H' yy
   have R3:=R2.ext x3
   refine⟨F3,τ2,ds[i],R3.rv,r3,(Post.of p2).imp fun τ4 p4 σ4 _ R4 _=>⟨B,Z,F3,τ4,R4 B Z R3,?_⟩⟩
   cases q:fb τ4 with
   |nx τ5=>rw[q] at p4;exact fun σ' F' H' ff RR=>⟨F',τ5,x3.ff.trans ff,RR,Post.same p4 (x3.ff.trans ff)⟩
   |ct τ5=>rw[q] at p4;exact fun σ' F' H' ff RR=>⟨F',τ5,x3.ff.trans ff,RR,Post.same p4 (x3.ff.trans ff)⟩
   |bk τ5=>rw[q] at p4;exact fun σ' F' H' ff RR=>p4 σ' F' H' (x3.ff.trans ff) RR
   |rt d=>rw[q] at p4;exact p4
   |ro d τ'=>rw[q] at p4;exact fun v σ' F' H' ff RR rr=>p4 v σ' F' H' (x3.ff.trans ff) RR rr
   |rb d τ'=>rw[q] at p4;exact fun v σ' F' H' ff RR rr=>p4 v σ' F' H' (x3.ff.trans ff) RR rr
   |ex c=>rw[q] at p4;exact p4
   |no=>rw[q] at p4;exact p4
   |rs c τ5=>rw[q] at p4;exact fun σ' F' H' ff RR=>p4 σ' F' H' (x3.ff.trans ff) RR
  ·have e:i=ds.length:=by lia
   subst e
   rw[drop_length] at p2
   exact .inl ⟨i1 (le_refl _),p2 σ2 F2 H2 (Same.refl _) R2⟩
end
noncomputable def Vm(r:Rs D):Rs D:=match r with
 |.ok d=>.ok d
 |_=>.no
noncomputable def spD(K:Frag)(n:Nat)(g:List D→Rs D):Sp:=fun vs H Q E=>vs.length=n∧∃ds F,Same F H∧TbT F H∧Reps K F ds vs∧match g ds with
 |.ok d=>Ev K F H Q d
 |_=>False
noncomputable def yo(N:Nat)(ds:List D):DS:=ds.map (fun d=>some (.val d))++List.replicate (N-ds.length) none
noncomputable def uC:Fl→Rs D
 |.rt d=>.ok d
 |.ro d _=>.ok d
 |.nx _=>.ok .non
 |.rs c _=>.ex c
 |_=>.no
noncomputable def wU(N:Nat)(fb:FS)(ds:List D):Rs D:=uC (fb (yo N ds))
theorem Ub{K:Frag}{F H:Hp}{N:List Str}{ds:List D}{vs:List V}(fh:Same F H)(tt:TbT F H)(r:Reps K F ds vs):RS K H F F (yo N.length ds) (L2.start N vs) H:=by
 have hl:=r.length
 have hval:∀(i:Nat) (o:Sl),(yo N.length ds)[i]?=some (some o)→∃d,ds[i]?=some d∧o=.val d:=fun i o h=>by
  unfold yo at h
  by_cases hi:i<ds.length
  ·rw[getElem?_append_left (by simpa using hi),getElem?_map] at h
   cases e:ds[i]? with
   |none=>rw[e] at h;cases h
   |some d=>rw[e] at h;cases h;exact⟨d,rfl,rfl⟩
  ·rw[getElem?_append_right (by simpa using hi),getElem?_replicate] at h
   split at h <;> cases h
 refine⟨⟨fh,?_,fun i d h=>?_,fun i es h=>?_,fun i j es es' a _ h1 _ _ _=>?_,tt,ObsOk.none fun i s h=>?_⟩,Hh.refl H,Same.refl F,fun a o e=>.inl e,fun i es a h1 _=>?_,fun i m c fs a h1 _=>?_,fun a0 dx _ _ j m c fs h1=>?_,fun j c fs a h1 _=>?_⟩
 ·simp[yo,L2.start,hl]
 ·obtain⟨d',h1,h2⟩:=hval i _ h
  cases h2
  obtain⟨v,q1,q2⟩:=r.get h1
  refine⟨v,?_,q2⟩
  have hi:i<vs.length:=(List.getElem?_eq_some_iff.mp q1).1
  unfold L2.start
  rw[getElem?_append_left (by simpa using hi),getElem?_map,q1];rfl
 ·obtain⟨_,_,h2⟩:=hval i _ h;cases h2
 ·obtain⟨_,_,h2⟩:=hval i _ h1;cases h2
 ·cases s with
  |none=>rfl
  |some o=>obtain⟨_,_,h2⟩:=hval i _ h;rw[h2];rfl
 ·obtain⟨_,_,h2⟩:=hval i _ h1;cases h2
 ·obtain⟨_,_,h2⟩:=hval i _ h1;cases h2
 ·obtain⟨_,_,h2⟩:=hval j _ h1;cases h2
 ·obtain⟨_,_,h2⟩:=hval j _ h1;cases h2
section
variable{P:Program}{w:World}{K:Frag}{mg:Str→Option Value}{base:Heap}
theorem fnD{x qual:Str}{st:Stmt}{f:Addr}{fd:FuncData}{N ps:List Str}{k n:Nat}{fb:FS}(F:Fun K x qual st f fd)(S:zL N ps (zi st))(hn:ps.length=n)
  (hbody:∀(cdv:Value) (A:Around) (outer:List Env) (s:Shared) (H:Hp) (E:XK),Room k (A.deeper (envOfC qual (zi st) s.heap.objs.size f cdv)) →
   wy (ut CX0 P w K mg base N qual (zi st) f cdv A outer s H E).nox (zC st) fb):FnOk P w K mg base CX0 (k+1) f fd ps (spD K n (wU N.length fb)):=by
 refine F.ok S (fun vs H Q E h=>by rw[hn];exact h.1) fun cdv A outer s H vs Q E hr h=>⟨_,hbody cdv A outer s H E hr,?_⟩
 obtain⟨hl,ds,Fz,fh,tt,r,h⟩:=h
 refine⟨H,Fz,Fz,yo N.length ds,Ub fh tt r,?_⟩
 unfold wU at h
 cases q:fb (yo N.length ds) with
 |nx τ=>rw[q] at h;exact fun σ F' H' ff RR=>h .non F' H' RR.out (by simp only[Rep])
 |rt d=>rw[q] at h;exact fun v F' H' x rr=>h v F' H' x rr
 |ro d τ=>rw[q] at h;exact fun v σ F' H' ff RR rr=>h v F' H' RR.out rr
 |rb d τ=>rw[q] at h;exact h.elim
 |bk τ=>rw[q] at h;exact h.elim
 |ct τ=>rw[q] at h;exact h.elim
 |ex c=>rw[q] at h;exact h.elim
 |no=>rw[q] at h;exact h.elim
 |rs c τ=>rw[q] at h;exact h.elim
theorem FnD.to{CX:CXT}{f:Addr}{fd:FuncData}{ps:List Str}{k n:Nat}{g g':List D→Rs D}(F:FnOk P w K mg base CX k f fd ps (spD K n g))(h:∀ds d,ds.length=n→g' ds=.ok d→g ds=.ok d):FnOk P w K mg base CX k f fd ps (spD K n g'):=
 F.imp fun vs H Q E ⟨hl,ds,Fz,fh,tt,r,q⟩=>⟨hl,ds,Fz,fh,tt,r,by
  cases e:g' ds with
  |ok d=>rw[e] at q;rw[h ds d (by rw[r.length];exact hl) e];exact q
  |ex c=>rw[e] at q;exact q.elim
  |no=>rw[e] at q;exact q.elim⟩
end
section
variable{X:Cx}{pos:Pos}{e tg:Expr}{es:List Expr}{fe:FE}{fs:FA}
noncomputable def zx(g:List D→Rs D)(fs:FA):FE:=fun τ=>(fs τ).bind fun ds=>Vm (g ds)
theorem UD{k n:Nat}{f:Addr}{fd:FuncData}{ps:List Str}{g:List D→Rs D}{x:Str}{p:Pos}(F:FnOk X.prog X.w X.K X.mg X.base CX0 k f fd ps (spD X.K n g))(hr:Room k X.A)(hg:Gl X x)(hm:X.mg x=some (.ref f))(hk:keepIn X.K (.ref f)=true)(hb:Binds X.K fd ps [])
  (ha:PDA X (e::es) fs) (hn:(e::es).length=n) (hfs:∀τ ds,fs τ=.ok ds→ds.length=(e::es).length) (hdb:(x==("__debug__" : Str))=false:=by decide) (he:starEach (e::es) X.env=(false,eval e X.env)::starEach es X.env:=by rfl) (hpl:(backTo pos (starEach es X.env)).any (·.1)=false:=by rfl) :
  PDE X (.Call (.Name x p) (e::es) [] pos) (zx g fs):=
 PE.imp (Qo F hr hg hm hk hb .nil (E:=E0) YC ha hdb he hpl) fun σ H Q z_=>by
  obtain⟨Fz,τ,R,h⟩:=z_
  have hb:=h.bind
  refine⟨Fz,τ,R,?_⟩
  cases q:fs τ with
  |no=>rw[q] at hb;exact hb
  |ex c=>rw[q] at hb;exact hb
  |ok ds=>
   rw[q] at hb
   intro vs F1 H1 x r
   rw[append_nil]
   refine⟨by rw[← r.length,hfs τ ds q,hn],ds,F1,x.fh,x.tt R.tt,r,?_⟩
   have hb:Ok X (Vm (g ds)) (Ev X.K Fz H Q):=hb
   cases z:g ds with
   |ok d=>rw[z] at hb;exact Ev.ext hb x
   |ex c=>rw[z] at hb;exact hb.elim
   |no=>rw[z] at hb;exact hb.elim
theorem zB(τ:DS)(ds:List D)(h:zm τ=.ok ds):ds.length=0:=by cases h;rfl
theorem zh{f:FE}{g:FA}{n:Nat}(hg:∀τ ds,g τ=.ok ds→ds.length=n)(τ:DS)(ds:List D)(h:za f g τ=.ok ds):ds.length=n+1:=by
 unfold za at h
 cases q:f τ with
 |no=>rw[q] at h;cases h
 |ex c=>rw[q] at h;cases h
 |ok d=>
  rw[q] at h
  cases q2:g τ with
  |no=>rw[q2] at h;cases h
  |ex c=>rw[q2] at h;cases h
  |ok r=>rw[q2] at h;cases h;simp[hg τ r q2]
noncomputable def JJ(X:Cx)(f:Value)(g:List D→Rs D):Prop:=∃r,CallR X f r∧∀F H vs ds Q,Same F H→Reps X.K F ds vs→Ok X (g ds) (Ev X.K F H Q)→r vs H Q
noncomputable def wx(g:List D→Rs D)(fs:FA):FE:=fun τ=>(fs τ).bind g
theorem xc{id:String}{x:Str}{p:Pos}{g:List D→Rs D}(hc:JJ X (.builtin id) g)(hg:Gl X x)(hm:X.mg x=none)(hv:bootBuiltins x=some (.builtin id))(ha:PDA X (e::es) fs)(hn:x ≠ "__name__" := by decide)(hdb:(x==("__debug__" : Str))=false:=by decide)
  (he:starEach (e::es) X.env=(false,eval e X.env)::starEach es X.env:=by rfl) (hpl:(backTo pos (starEach es X.env)).any (·.1)=false:=by rfl):PDE X (.Call (.Name x p) (e::es) [] pos) (wx g fs):=by
 obtain⟨r,h1,h2⟩:=hc
 exact PE.imp (L2.pe_callB h1 hg hm hv ha hn hdb he hpl) fun σ H Q z_=>by obtain⟨Fz,τ,R,h⟩:=z_;exact tAs.of R h.bind fun ds vs F1 H1 q x R1 rr=>h2 F1 H1 vs ds Q R1.fh rr (q.imp fun d e=>e.ext x)
noncomputable def IxD(X:Cx)(op:D→D→Rs D):Prop:=∃r:R2,IxR X r∧∀F H x y dx dy Q,Same F H→Rep X.K F dx x→Rep X.K F dy y→Ok X (op dx dy) (Ev X.K F H Q)→r x y H Q
theorem ZO{a b:Expr}{fa fb:FE}{op:D→D→Rs D}(hr:IxD X op)(ha:PDE X a fa)(hb:PDE X b fb)(hs:Ya b:=by intro _ _;rfl):PDE X (.Subscript a b pos) (eOp op fa fb):=by
 obtain⟨r,h1,h2⟩:=hr
 exact PE.imp (GL h1 ha hb hs) (Wq h2)
noncomputable def ixD:D→D→Rs D
 |.lst ds,.int k=>match atI ds k with
  |some d=>.ok d
  |none=>.no
 |.tup ds,.int k=>match atI ds k with
  |some d=>.ok d
  |none=>.no
 |.scr ns,.int k=>match atI ns k with
  |some d=>.ok (.int d)
  |none=>.no
 |.str x,.int k=>match atI x.cps.toList k with
  |some c=>if x.length≤sizeLine then .ok (.str ⟨#[c]⟩) else .no
  |none=>.no
 |_,_=>.no
theorem Gz{α β:Type}{f:α→β}{xs:List α}{k:Int}{a:α}(h:atI xs k=some a):atI (xs.map f) k=some (f a):=by
 unfold atI at h ⊢
 rw[length_map]
 cases q:ixN xs.length k with
 |none=>rw[q] at h;cases h
 |some j=>
  rw[q] at h
  have h:xs[j]?=some a:=h
  show(xs.map f)[j]?=_
  rw[getElem?_map,h];rfl
theorem WE:IxD X ixD:=⟨_,M4,fun F H x y dx dy Q fh r1 r2 h=>by
 cases dx with
 |lst ds=>
  cases dy with
  |int k=>
   simp only[Rep] at r1 r2;obtain⟨a,vs,rfl,q,t⟩:=r1;subst r2
   (delta ixD at h;dsimp only at h)
   cases z:atI ds k with
   |none=>rw[z] at h;exact h.elim
   |some d=>
    rw[z] at h
    obtain⟨v,z1,z2⟩:=jG t z
    exact .inl ⟨a,vs,k,v,rfl,rfl,SqL.of (fh _ _ q),z1,h v F H (Ext.refl fh) z2⟩
  |_=>exact h.elim
 |tup ds=>
  cases dy with
  |int k=>
   simp only[Rep] at r1 r2;obtain⟨a,vs,rfl,q,t⟩:=r1;subst r2
   (delta ixD at h;dsimp only at h)
   cases z:atI ds k with
   |none=>rw[z] at h;exact h.elim
   |some d=>
    rw[z] at h
    obtain⟨v,z1,z2⟩:=jG t z
    exact .inr (.inl ⟨a,vs,k,v,rfl,rfl,Same.seqT fh q,z1,h v F H (Ext.refl fh) z2⟩)
  |_=>exact h.elim
 |scr ns=>
  cases dy with
  |int k=>
   simp only[Rep] at r1 r2;obtain⟨a,rfl,q⟩:=r1;subst r2
   (delta ixD at h;dsimp only at h)
   cases z:atI ns k with
   |none=>rw[z] at h;exact h.elim
   |some d=>
    rw[z] at h
    exact .inl ⟨a,_,k,.int d,rfl,rfl,fh.seq q,Gz z,h (.int d) F H (Ext.refl fh) (by simp only[Rep])⟩
  |_=>exact h.elim
 |str x=>
  cases dy with
  |int k=>
   simp only[Rep] at r1 r2;subst r1;subst r2
   (delta ixD at h;dsimp only at h)
   cases z:atI x.cps.toList k with
   |none=>rw[z] at h;exact h.elim
   |some c=>
    rw[z] at h
    obtain⟨z2,h⟩:=z6 h
    exact .inr (.inr ⟨x,k,c,rfl,rfl,z2,z,h _ F H (Ext.refl fh) (by simp only[Rep])⟩)
  |_=>exact h.elim
 |_=>cases dy <;> exact h.elim⟩
end
mutual
noncomputable def yn:D→PyData
 |.non=>.none
 |.bl b=>.bool b
 |.int i=>.int i
 |.str x=>.str x
 |.lst ds=>.list (toPys ds)
 |.tup ds=>.tuple (toPys ds)
 |.scr ns=>.list (ns.map .int)
 |.raw _=>.none
 |.exc _=>.none
 |.dct _ _=>.none
noncomputable def toPys:List D→List PyData
 |[]=>[]
 |d::r=>yn d::toPys r
end
mutual
noncomputable def yw:D→Bool
 |.lst ds=>plainDs ds
 |.tup ds=>plainDs ds
 |.raw _=>false
 |.exc _=>false
 |.dct _ _=>false
 |_=>true
noncomputable def plainDs:List D→Bool
 |[]=>true
 |d::r=>yw d&&plainDs r
end
theorem readsAll_ints{h:Heap}:∀{ns:List Int} {us:List Value},Vals (ns.map V.int) us→ReadsAll h us (ns.map .int) []
 |[],_,.nil=>.nil
 |n::ns,_,.cons r t=>by
  obtain⟨tk,rfl⟩:=r
  exact .cons (as:=[]) (bs:=[]) (.int n tk) (readsAll_ints t)
section
variable{X:Cx}{pins:List (Addr×Obj)}{σ:St}{F H:Hp}{s:Shared}
mutual
theorem y3(I:Inv X pins σ H s)(fh:Same F H):∀(d:D) {v:V} {u:Value},Rep X.K F d v→RelV v u→yw d=true→∃as,Reads s.heap u (yn d) as
 |.non,v,u,r,rv,_=>by simp only[Rep] at r;subst r;cases rv;exact⟨[],.none⟩
 |.bl b,v,u,r,rv,_=>by simp only[Rep] at r;subst r;cases rv;exact⟨[],.bool b⟩
 |.int i,v,u,r,rv,_=>by simp only[Rep] at r;subst r;obtain⟨t,rfl⟩:=rv;exact⟨[],.int i t⟩
 |.str x,v,u,r,rv,_=>by simp only[Rep] at r;subst r;obtain⟨t,rfl⟩:=rv;exact⟨[],.str x t⟩
 |.lst ds,v,u,r,rv,hp=>by
  simp only[Rep] at r;obtain⟨a,vs,rfl,q,t⟩:=r
  cases rv
  obtain⟨its,rr,⟨o,n,e,c,_,dd⟩,_⟩:=I.list (SqL.of (K:=X.K) (fh _ _ q))
  obtain⟨as,ra⟩:=readss_of I fh ds t rr (by simpa only[yw] using hp)
  exact⟨a::as,by rw[yn];exact .list e c dd (by simpa using ra)⟩
 |.tup ds,v,u,r,rv,hp=>by
  simp only[Rep] at r;obtain⟨a,vs,rfl,q,t⟩:=r
  cases rv
  obtain⟨its,rr,⟨o,e,c,n,dd⟩,_⟩:=I.tuple (Same.seqT fh q)
  obtain⟨as,ra⟩:=readss_of I fh ds t rr (by simpa only[yw] using hp)
  exact⟨as,by rw[yn];exact .tuple e c dd (by simpa using ra)⟩
 |.scr ns,v,u,r,rv,hp=>by
  simp only[Rep] at r;obtain⟨a,rfl,q⟩:=r
  cases rv
  obtain⟨its,rr,⟨o,n,e,c,_,dd⟩,_⟩:=I.list (fh.seq q)
  exact⟨[a],by rw[yn];exact .list e c dd (by simpa using readsAll_ints rr)⟩
 |.raw w,v,u,r,rv,hp=>by simp[yw] at hp
 |.exc w,v,u,r,rv,hp=>by simp[yw] at hp
 |.dct _ _,v,u,r,rv,hp=>by simp[yw] at hp
theorem readss_of(I:Inv X pins σ H s)(fh:Same F H):∀(ds:List D) {vs:List V} {us:List Value},Reps X.K F ds vs→Vals vs us→plainDs ds=true→∃as,ReadsAll s.heap us (toPys ds) as
 |[],vs,us,r,rv,_=>by simp only[Reps] at r;subst r;cases rv;exact⟨[],by rw[toPys];exact .nil⟩
 |d::ds,vs,us,r,rv,hp=>by
  simp only[Reps] at r
  obtain⟨v,r',rfl,q,t⟩:=r
  simp only[plainDs,Bool.and_eq_true] at hp
  cases rv with
  |cons r1 r2=>
   obtain⟨as,h1⟩:=y3 I fh d q r1 hp.1
   obtain⟨bs,h2⟩:=readss_of I fh ds t r2 hp.2
   exact⟨as++bs,by rw[toPys];exact .cons h1 h2⟩
end
end
noncomputable def okD(d:D):Bool:=yw d&&(yn d).canLay0&&decide ((yn d).depth≤60)
theorem xR{d:D}(h:okD d=true):yw d=true∧(yn d).canLay0=true∧(yn d).depth≤60:=by
 simpa[okD,and_assoc] using h
noncomputable def xN(d e:D):Bool:=PyData.eqv (yn d) (yn e)
noncomputable def eqD:D→D→Rs D
 |.str x,.str y=>.ok (.bl (x==y))
 |.int x,.int y=>.ok (.bl (x==y))
 |d,e=>if okD d=true∧okD e=true then .ok (.bl (xN d e)) else .no
noncomputable def neD:D→D→Rs D
 |.str x,.str y=>.ok (.bl (!(x==y)))
 |.int x,.int y=>.ok (.bl (!(x==y)))
 |d,e=>if okD d=true∧okD e=true then .ok (.bl (!xN d e)) else .no
section
variable{X:Cx}
noncomputable def Wa(K:Frag)(b:D→D→Bool):R2:=fun x y H Q=>∃F d e,Same F H∧Rep K F d x∧Rep K F e y∧okD d=true∧okD e=true∧Q (.bl (b d e)) H
theorem Vj(hu:X.A.units+64<cLine):OpR X (compareOp .Eq) (Wa X.K xN):=by
 intro pins s σ H x y v u Q I rx ry h
 obtain⟨F,d,e,fh,r1,r2,o1,o2,q⟩:=h
 obtain⟨p1,c1,e1⟩:=xR o1
 obtain⟨p2,c2,e2⟩:=xR o2
 obtain⟨as,h1⟩:=y3 I fh d r1 rx p1
 obtain⟨bs,h2⟩:=y3 I fh e r2 ry p2
 exact SeqAt.compareEq_reads h1 h2 c1 c2 (by lia) ⟨.bl _,H,I,rfl,q⟩
theorem Vh(hu:X.A.units+64<cLine):OpR X (compareOp .NotEq) (Wa X.K fun d e=>!xN d e):=by
 intro pins s σ H x y v u Q I rx ry h
 obtain⟨F,d,e,fh,r1,r2,o1,o2,q⟩:=h
 obtain⟨p1,c1,e1⟩:=xR o1
 obtain⟨p2,c2,e2⟩:=xR o2
 obtain⟨as,h1⟩:=y3 I fh d r1 rx p1
 obtain⟨bs,h2⟩:=y3 I fh e r2 ry p2
 exact SeqAt.compareNe_reads h1 h2 c1 c2 (by lia) ⟨.bl _,H,I,rfl,q⟩
theorem ZR(hu:X.A.units+64<cLine):OpD X (compareOp .Eq) eqD:=⟨_,op_eq.or (Vj hu),fun F H x y dx dy Q fh r1 r2 h=>by
 have gen:(Ok X (if okD dx=true∧okD dy=true then .ok (.bl (xN dx dy)) else .no) (Ev X.K F H Q))→rEq x y H Q∨Wa X.K xN x y H Q:=fun h=>by
  obtain⟨z,h⟩:=z6 h
  exact .inr ⟨F,dx,dy,fh,r1,r2,z.1,z.2,h _ F H (Ext.refl fh) (by simp only[Rep])⟩
 cases dx with
 |str a=>
  cases dy with
  |str b=>
   simp only[Rep] at r1 r2;subst r1;subst r2
   exact .inl ⟨rfl,by rw[uY];exact h _ F H (Ext.refl fh) (by simp only[Rep])⟩
  |_=>exact gen h
 |int a=>
  cases dy with
  |int b=>
   simp only[Rep] at r1 r2;subst r1;subst r2
   exact .inl ⟨rfl,by rw[uZ];exact h _ F H (Ext.refl fh) (by simp only[Rep])⟩
  |_=>exact gen h
 |_=>exact gen h⟩
theorem ji(hu:X.A.units+64<cLine):OpD X (compareOp .NotEq) neD:=⟨_,op_ne.or (Vh hu),fun F H x y dx dy Q fh r1 r2 h=>by
 have gen:(Ok X (if okD dx=true∧okD dy=true then .ok (.bl (!xN dx dy)) else .no) (Ev X.K F H Q))→rNe x y H Q∨Wa X.K (fun d e=>!xN d e) x y H Q:=fun h=>by
  obtain⟨z,h⟩:=z6 h
  exact .inr ⟨F,dx,dy,fh,r1,r2,z.1,z.2,h _ F H (Ext.refl fh) (by simp only[Rep])⟩
 cases dx with
 |str a=>
  cases dy with
  |str b=>
   simp only[Rep] at r1 r2;subst r1;subst r2
   exact .inl ⟨rfl,by rw[uY];exact h _ F H (Ext.refl fh) (by simp only[Rep])⟩
  |_=>exact gen h
 |int a=>
  cases dy with
  |int b=>
   simp only[Rep] at r1 r2;subst r1;subst r2
   exact .inl ⟨rfl,by rw[uZ];exact h _ F H (Ext.refl fh) (by simp only[Rep])⟩
  |_=>exact gen h
 |_=>exact gen h⟩
noncomputable def intOp(C:Int→Int→Bool)(g:Int→Int→D):D→D→Rs D
 |.int i,.int j=>if C i j=true then .ok (g i j) else .no
 |_,_=>.no
theorem Wp{f:Value→Value→Sem Value}{C':Int→Int→Prop}{C:Int→Int→Bool}{gv:Int→Int→V}{g:Int→Int→D}(h:OpR X f (rI C' gv))(hc:∀i j,C i j=true→C' i j)(hg:∀F i j,Rep X.K F (g i j) (gv i j)):OpD X f (intOp C g):=
 ⟨_,h,fun F H x y dx dy Q fh r1 r2 q=>by
  cases dx with
  |int i=>
   cases dy with
   |int j=>
    simp only[Rep] at r1 r2;subst r1;subst r2
    obtain⟨z,q⟩:=z6 q
    exact⟨i,j,rfl,rfl,hc i j z,q _ F H (Ext.refl fh) (hg F i j)⟩
   |_=>exact q.elim
  |_=>cases dy <;> exact q.elim⟩
noncomputable def Z1(g:Int→Int→D):D→D→Rs D
 |.int i,.int j=>.ok (g i j)
 |_,_=>.no
theorem jj{f:Value→Value→Sem Value}{gv:Int→Int→V}{g:Int→Int→D}(h:OpR X f (rI0 gv))(hg:∀F i j,Rep X.K F (g i j) (gv i j)):OpD X f (Z1 g):=
 ⟨_,h,fun F H x y dx dy Q fh r1 r2 q=>by
  cases dx with
  |int i=>
   cases dy with
   |int j=>
    simp only[Rep] at r1 r2;subst r1;subst r2
    exact⟨i,j,rfl,rfl,q _ F H (Ext.refl fh) (hg F i j)⟩
   |_=>exact q.elim
  |_=>cases dy <;> exact q.elim⟩
noncomputable def v6:=Z1 fun i j=>.int (i-j)
theorem uT:OpD X (binaryOp .Sub) v6:=jj MC fun _ _ _=>by simp only[Rep]
noncomputable def ZY:=intOp (fun _ j=>decide (0<j)) fun i j=>.int (i%j)
theorem wP:OpD X (binaryOp .Mod) ZY:=Wp ME (fun i j h=>by simpa using h) fun _ _ _=>by simp only[Rep]
noncomputable def jA:=intOp (fun _ j=>decide (0<j∧j<1073741824)) fun i j=>.int (i / j)
theorem vL:OpD X (binaryOp .FloorDiv) jA:=Wp QB (fun i j h=>by have h':0<j∧j<1073741824:=of_decide_eq_true h;exact h') fun _ _ _=>by simp only[Rep]
noncomputable def ltI:=Z1 fun i j=>.bl (decide (i<j))
noncomputable def gtD:=Z1 fun i j=>.bl (decide (j<i))
theorem ZQ:OpD X (compareOp .Lt) ltI:=jj op_lt fun _ _ _=>by simp only[Rep]
theorem MB:OpD X (compareOp .Gt) gtD:=jj op_gt fun _ _ _=>by simp only[Rep]
noncomputable def zI:D→D→Rs D
 |.int i,.int j=>.ok (.int (i+j))
 |.str i,.str j=>if i.length+j.length≤sizeLine then .ok (.str (i++j)) else .no
 |.lst i,.lst j=>if i.length+j.length≤sizeLine then .ok (.lst (i++j)) else .no
 |_,_=>.no
theorem zE:OpD X (binaryOp .Add) zI:=⟨_,op_add.or (op_add_str.or MF),fun F H x y dx dy Q fh r1 r2 q=>by
 cases dx with
 |int i=>
  cases dy with
  |int j=>
   simp only[Rep] at r1 r2;subst r1;subst r2
   exact .inl ⟨i,j,rfl,rfl,q _ F H (Ext.refl fh) (by simp only[Rep])⟩
  |_=>exact q.elim
 |str i=>
  cases dy with
  |str j=>
   simp only[Rep] at r1 r2;subst r1;subst r2
   obtain⟨z,q⟩:=z6 q
   exact .inr (.inl ⟨i,j,rfl,rfl,z,q _ F H (Ext.refl fh) (by simp only[Rep])⟩)
  |_=>exact q.elim
 |lst i=>
  cases dy with
  |lst j=>
   simp only[Rep] at r1 r2
   obtain⟨a,vs,rfl,e1,t1⟩:=r1
   obtain⟨b,ws,rfl,e2,t2⟩:=r2
   obtain⟨z,q⟩:=z6 q
   refine .inr (.inr ⟨a,b,vs,ws,rfl,rfl,fh _ _ e1,fh _ _ e2,by rw[← t1.length,← t2.length];exact z,fun p hp=>q _ _ _ (Ext.new fh hp) ?_⟩)
   simp only[Rep]
   exact⟨p,vs++ws,rfl,zk,(t1.append t2).mono (zS (zA fh hp))⟩
  |_=>exact q.elim
 |_=>cases dy <;> exact q.elim⟩
noncomputable def y8:D→D→Rs D
 |.int i,.int j=>if (-(18446744073709551616)<i∧i<18446744073709551616)∨(-(18446744073709551616)<j∧j<18446744073709551616) then .ok (.int (i*j)) else .no
 |.lst i,.int k=>if k<16777216∧-16777216<k∧i.length*k.toNat≤sizeLine then .ok (.lst (List.replicate k.toNat i).flatten) else .no
 |_,_=>.no
theorem yL:OpD X (binaryOp .Mult) y8:=⟨_,op_mul.or MD,fun F H x y dx dy Q fh r1 r2 q=>by
 cases dx with
 |int i=>
  cases dy with
  |int j=>
   simp only[Rep] at r1 r2;subst r1;subst r2
   obtain⟨z,q⟩:=z6 q
   refine .inl ⟨i,j,rfl,rfl,?_,q _ F H (Ext.refl fh) (by simp only[Rep])⟩
   unfold CMul
   rcases z with z|z
   ·exact .inl (by lia)
   ·exact .inr (by lia)
  |_=>exact q.elim
 |lst i=>
  cases dy with
  |int k=>
   simp only[Rep] at r1 r2
   obtain⟨a,vs,rfl,e1,t1⟩:=r1
   subst r2
   obtain⟨z,q⟩:=z6 q
   refine .inr ⟨a,k,vs,rfl,rfl,fh _ _ e1,by lia,by lia,by rw[← t1.length];exact z.2.2,fun p hp=>q _ _ _ (Ext.new fh hp) ?_⟩
   simp only[Rep]
   exact⟨p,_,rfl,zk,(t1.rep k.toNat).mono (zS (zA fh hp))⟩
  |_=>exact q.elim
 |_=>cases dy <;> exact q.elim⟩
noncomputable def Yg(i j:Str):Bool:=!(Builtin.Str.occurrences j i 0 j.length 1).isEmpty
noncomputable def inD:D→D→Rs D
 |.str i,.str j=>.ok (.bl (Yg i j))
 |d,.lst xs=>if okD d=true∧okD (.lst xs)=true then .ok (.bl (xs.any fun y=>xN y d)) else .no
 |d,.tup xs=>if okD d=true∧okD (.tup xs)=true then .ok (.bl (xs.any fun y=>xN y d)) else .no
 |_,_=>.no
noncomputable def MS(r:D):Rs D:=match r with
 |.bl b=>.ok (.bl (!b))
 |_=>.no
noncomputable def vd(d e:D):Rs D:=(inD d e).bind MS
theorem jZ:∀xs:List D,toPys xs=xs.map yn:=by
 intro l_
 induction l_ with
 |nil=>
  exact rfl
 |cons d r ih_=>
  rw[toPys,ih_,map_cons]
theorem wR(xs:List D)(d:D):((toPys xs).any fun y=>PyData.eqv y (yn d))=xs.any fun y=>xN y d:=by
 rw[jZ,List.any_map];rfl
noncomputable def rInD(K:Frag)(neg:Bool):R2:=fun x y H Q=>∃F d e xs,Same F H∧Rep K F d x∧Rep K F e y∧okD d=true∧okD e=true∧(e=.lst xs∨e=.tup xs)∧Q (.bl (if neg then !(xs.any fun y=>xN y d) else xs.any fun y=>xN y d)) H
theorem Vi(hu:X.A.units+128<cLine):OpR X (compareOp .In) (rInD X.K false):=by
 intro pins s σ H x y v u Q I rx ry h
 obtain⟨F,d,e,xs,fh,r1,r2,o1,o2,he,q⟩:=h
 obtain⟨p1,c1,e1⟩:=xR o1
 obtain⟨p2,c2,e2⟩:=xR o2
 obtain⟨as,h1⟩:=y3 I fh d r1 rx p1
 obtain⟨bs,h2⟩:=y3 I fh e r2 ry p2
 rcases he with rfl|rfl
 ·rw[yn] at h2 c2 e2
  refine SeqAt.in_list_reads h2 h1 (by simpa only[PyData.canLay0] using c2) c1 (by lia) ⟨.bl _,H,I,rfl,?_⟩
  rw[wR];exact q
 ·rw[yn] at h2 c2 e2
  refine SeqAt.in_tuple_reads h2 h1 (by simpa only[PyData.canLay0] using c2) c1 (by lia) ⟨.bl _,H,I,rfl,?_⟩
  rw[wR];exact q
theorem ZS(hu:X.A.units+128<cLine):OpR X (compareOp .NotIn) (rInD X.K true):=by
 intro pins s σ H x y v u Q I rx ry h
 obtain⟨F,d,e,xs,fh,r1,r2,o1,o2,he,q⟩:=h
 obtain⟨p1,c1,e1⟩:=xR o1
 obtain⟨p2,c2,e2⟩:=xR o2
 obtain⟨as,h1⟩:=y3 I fh d r1 rx p1
 obtain⟨bs,h2⟩:=y3 I fh e r2 ry p2
 rcases he with rfl|rfl
 ·rw[yn] at h2 c2 e2
  refine SeqAt.notIn_list_reads h2 h1 (by simpa only[PyData.canLay0] using c2) c1 (by lia) ⟨.bl _,H,I,rfl,?_⟩
  rw[wR];exact q
 ·rw[yn] at h2 c2 e2
  refine SeqAt.notIn_tuple_reads h2 h1 (by simpa only[PyData.canLay0] using c2) c1 (by lia) ⟨.bl _,H,I,rfl,?_⟩
  rw[wR];exact q
theorem UF(hu:X.A.units+128<cLine):OpD X (compareOp .In) inD:=⟨_,op_in_str.or (Vi hu),fun F H x y dx dy Q fh r1 r2 q=>by
 cases dy with
 |lst xs=>
  have q':Ok X (if okD dx=true∧okD (.lst xs)=true then .ok (.bl (xs.any fun y=>xN y dx)) else .no) (Ev X.K F H Q):=by cases dx <;> exact q
  obtain⟨z,q⟩:=z6 q'
  exact .inr ⟨F,dx,_,xs,fh,r1,r2,z.1,z.2,.inl rfl,q _ F H (Ext.refl fh) (by simp only[Rep];rfl)⟩
 |tup xs=>
  have q':Ok X (if okD dx=true∧okD (.tup xs)=true then .ok (.bl (xs.any fun y=>xN y dx)) else .no) (Ev X.K F H Q):=by cases dx <;> exact q
  obtain⟨z,q⟩:=z6 q'
  exact .inr ⟨F,dx,_,xs,fh,r1,r2,z.1,z.2,.inr rfl,q _ F H (Ext.refl fh) (by simp only[Rep];rfl)⟩
 |str j=>
  cases dx with
  |str i=>
   simp only[Rep] at r1 r2;subst r1;subst r2
   exact .inl ⟨i,j,rfl,rfl,q _ F H (Ext.refl fh) (by simp only[Rep,Yg])⟩
  |_=>exact q.elim
 |_=>cases dx <;> exact q.elim⟩
theorem Za(hu:X.A.units+128<cLine):OpD X (compareOp .NotIn) vd:=⟨_,op_notin_str.or (ZS hu),fun F H x y dx dy Q fh r1 r2 q=>by
 have q:=Ok.bind q
 cases dy with
 |lst xs=>
  have q':Ok X (if okD dx=true∧okD (.lst xs)=true then .ok (.bl (xs.any fun y=>xN y dx)) else .no) (fun r=>Ok X (MS r) (Ev X.K F H Q)):=by cases dx <;> exact q
  obtain⟨z,q⟩:=z6 q'
  exact .inr ⟨F,dx,_,xs,fh,r1,r2,z.1,z.2,.inl rfl,q _ F H (Ext.refl fh) (by simp only[Rep];rfl)⟩
 |tup xs=>
  have q':Ok X (if okD dx=true∧okD (.tup xs)=true then .ok (.bl (xs.any fun y=>xN y dx)) else .no) (fun r=>Ok X (MS r) (Ev X.K F H Q)):=by cases dx <;> exact q
  obtain⟨z,q⟩:=z6 q'
  exact .inr ⟨F,dx,_,xs,fh,r1,r2,z.1,z.2,.inr rfl,q _ F H (Ext.refl fh) (by simp only[Rep];rfl)⟩
 |str j=>
  cases dx with
  |str i=>
   simp only[Rep] at r1 r2;subst r1;subst r2
   exact .inl ⟨i,j,rfl,rfl,q _ F H (Ext.refl fh) (by simp only[Rep,Yg])⟩
  |_=>exact q.elim
 |_=>cases dx <;> exact q.elim⟩
noncomputable def XI(fa:FE):FE:=fun τ=>(fa τ).bind fun d=>match d with
 |.int i=>.ok (.int (-i))
 |_=>.no
theorem Qw{a:Expr}{pos:Pos}{fa:FE}(ha:PDE X a fa):PDE X (.UnaryOp .USub a pos) (XI fa):=
 PE.imp (pe_un G4 ha) fun σ H Q z_=>by
  obtain⟨F,τ,R,h⟩:=z_
  refine tE.of R h.bind fun d v F1 H1 g x R1 r=>?_
  cases d with
  |int i=>simp only[Rep] at r;exact⟨i,r,g _ F1 H1 x (by simp only[Rep])⟩
  |_=>exact g.elim
end
noncomputable def zV(env:Env)(cs:List (Str×Addr))(y:Str×NameKind):List (Str×Addr):=if y.2==NameKind.free then (y.1,(env.cells.lookup y.1).getD 0)::cs else cs
noncomputable def xt(scope:Scope)(env:Env):List (Str×Addr):=scope.names.foldl (zV env) []
theorem x9{scope:Scope}{env:Env}(h:∀y∈scope.names,y.2=.free→(env.cells.lookup y.1).isSome=true):closureFor scope env=pure (xt scope env):=by
 unfold closureFor xt
 generalize scope.names=names at h
 have gen:∀(cs:List (Str×Addr)),(forIn names cs fun x r=>(do
   if (x.2==NameKind.free)=true then do
    let c ← cellOf env x.1
    pure PUnit.unit
    pure (ForInStep.yield ((x.1,c)::r))
   else do
    pure PUnit.unit
    pure (ForInStep.yield r)):Sem (List (Str×Addr)))=pure (names.foldl (zV env) cs):=by
  induction names with
  |nil=>intro cs;rfl
  |cons y r ih=>
   intro cs
   rw[List.forIn_cons,foldl_cons]
   by_cases hk:y.2=.free
   ·obtain⟨c,hc⟩:=Option.isSome_iff_exists.mp (h y mem_cons_self hk)
    have e:zV env cs y=(y.1,c)::cs:=by simp[zV,hk,hc]
    rw[e,← ih (fun z hz=>h z (mem_cons_of_mem _ hz))]
    simp only[hk,beq_self_eq_true,if_true,cellOf,hc]
    rfl
   ·have hb:(y.2==NameKind.free)=false:=by simpa using hk
    have e:zV env cs y=cs:=by simp[zV,hb]
    rw[e,← ih (fun z hz=>h z (mem_cons_of_mem _ hz))]
    simp only[hb,Bool.false_eq_true,if_false]
    rfl
 show((forIn names ([]:List (Str×Addr)) fun x r=>(do
   if (x.2==NameKind.free)=true then do
    let c ← cellOf env x.1
    pure PUnit.unit
    pure (ForInStep.yield ((x.1,c)::r))
   else do
    pure PUnit.unit
    pure (ForInStep.yield r)):Sem (List (Str×Addr))) >>= fun s=>pure s)=_
 rw[gen []]
 rfl
theorem wI{env:Env}{x:Str}:∀{names:List (Str×NameKind)} {cs:List (Str×Addr)} {c:Addr},(names.foldl (zV env) cs).lookup x=some c→cs.lookup x=some c∨(∃y∈names,y.1=x∧y.2=.free∧c=(env.cells.lookup x).getD 0)
 |[],cs,c,h=>.inl h
 |y::r,cs,c,h=>by
  rw[foldl_cons] at h
  rcases wI h with q|⟨z,hz,e⟩
  ·by_cases hk:y.2=.free
   ·have e:zV env cs y=(y.1,(env.cells.lookup y.1).getD 0)::cs:=by simp[zV,hk]
    rw[e,lookup_cons] at q
    by_cases hx:x=y.1
    ·subst hx
     simp at q
     exact .inr ⟨y,mem_cons_self,rfl,hk,q.symm⟩
    ·have hb:(x==y.1)=false:=by simpa using hx
     rw[hb] at q
     exact .inl q
   ·have hb:(y.2==NameKind.free)=false:=by simpa using hk
    have e:zV env cs y=cs:=by simp[zV,hb]
    rw[e] at q
    exact .inl q
  ·exact .inr ⟨z,mem_cons_of_mem _ hz,e⟩
theorem wJ{env:Env}{x:Str}:∀{names:List (Str×NameKind)} {cs:List (Str×Addr)},((∃y∈names,y.1=x∧y.2=.free)∨∃c,cs.lookup x=some c)→∃c,(names.foldl (zV env) cs).lookup x=some c
 |[],cs,h=>by
  rcases h with ⟨y,hy,_⟩|h
  ·cases hy
  ·exact h
 |y::r,cs,h=>by
  rw[foldl_cons]
  refine wJ ?_
  by_cases hk:y.2=.free
  ·have e:zV env cs y=(y.1,(env.cells.lookup y.1).getD 0)::cs:=by simp[zV,hk]
   rw[e]
   by_cases hx:x=y.1
   ·subst hx;exact .inr ⟨(env.cells.lookup y.1).getD 0,by rw[lookup_cons];simp⟩
   ·have hb:(x==y.1)=false:=by simpa using hx
    rcases h with ⟨z,hz,e1,e2⟩|⟨c,hc⟩
    ·rcases mem_cons.mp hz with rfl|hz
     ·exact absurd e1.symm hx
     ·exact .inl ⟨z,hz,e1,e2⟩
    ·exact .inr ⟨c,by rw[lookup_cons,hb];exact hc⟩
  ·have hb:(y.2==NameKind.free)=false:=by simpa using hk
   have e:zV env cs y=cs:=by simp[zV,hb]
   rw[e]
   rcases h with ⟨z,hz,e1,e2⟩|h
   ·rcases mem_cons.mp hz with rfl|hz
    ·exact absurd e2 hk
    ·exact .inl ⟨z,hz,e1,e2⟩
   ·exact .inr h
noncomputable def _root_.L2.Cx.comp(X:Cx)(scope:Scope)(N:List Str)(s:Shared)(H:Hp)(C:Addr)(fp:List Addr):Cx:=
 { prog:=X.prog,w:=X.w,K:=X.K,mg:=X.mg,base:=X.base,A:=X.A,N:=N,s₀:=s,H₀:=H,env:=compEnvC scope (xt scope X.env) C X.env,outer:=X.stack,stack:=X.stack,ex:=fp,fn:=fun _=>false,calm:=X.calm,pn:=[],xe:=fun _ _=>False }
structure xA(X:Cx)(scope:Scope):Prop where
 kind:scope.kind=.function
 nocell:∀y∈scope.names,y.2≠.cell
 locs:∀y∈scope.names,y.2=.local→scope.names.lookup y.1=some .local
 free:∀y∈scope.names,y.2=.free→X.env.kindOf y.1=some .cell∨X.env.kindOf y.1=some .free
theorem xu{env:Env}:∀{names:List (Str×NameKind)} {x:Str},((names.map fun (n,k)=>if (k==NameKind.free&&env.scope.kind == .function&&env.kindOf n==some .cell) then (n,NameKind.cell) else (n,k)).lookup x=some .cell ∨
  (names.map fun (n,k)=>if (k==NameKind.free&&env.scope.kind == .function&&env.kindOf n==some .cell) then (n,NameKind.cell) else (n,k)).lookup x=some .free)→(∀y∈names,y.2≠.cell)→∃y∈names,y.1=x∧y.2=.free
 |[],_,h,_=>by rcases h with h|h <;> simp at h
 | (n,k)::r,x,h,hc=>by
  have hr:∀y∈r,y.2≠.cell:=fun y hy=>hc y (mem_cons_of_mem _ hy)
  rw[map_cons] at h
  by_cases hx:x=n
  ·subst hx
   by_cases hk:k=.free
   ·exact⟨_,mem_cons_self,rfl,hk⟩
   ·have hb:(k==NameKind.free)=false:=by simpa using hk
    have hck:k≠.cell:=hc (x,k) mem_cons_self
    simp only[hb,Bool.false_and,Bool.false_eq_true,if_false,lookup_cons,beq_self_eq_true] at h
    rcases h with h|h
    ·exact absurd (Option.some.inj h) hck
    ·exact absurd (Option.some.inj h) hk
  ·have hb:(x==n)=false:=by simpa using hx
   have step:∀q:Str×NameKind,q.1=n→((q::(r.map fun (n,k)=>if (k==NameKind.free&&env.scope.kind == .function&&env.kindOf n==some .cell) then (n,NameKind.cell) else (n,k))).lookup x)=((r.map fun (n,k)=>if (k==NameKind.free&&env.scope.kind == .function&&env.kindOf n==some .cell) then (n,NameKind.cell) else (n,k)).lookup x):=fun q hq=>by
    obtain⟨q1,q2⟩:=q
    simp only at hq
    subst hq
    rw[lookup_cons,hb]
   have h':((r.map fun (n,k)=>if (k==NameKind.free&&env.scope.kind == .function&&env.kindOf n==some .cell) then (n,NameKind.cell) else (n,k)).lookup x=some .cell∨(r.map fun (n,k)=>if (k==NameKind.free&&env.scope.kind == .function&&env.kindOf n==some .cell) then (n,NameKind.cell) else (n,k)).lookup x=some .free):=by
    rcases h with h|h
    ·left;exact(step _ (by show(if (k==NameKind.free&&env.scope.kind == .function&&env.kindOf n==some .cell)=true then (n,NameKind.cell) else (n,k)).1=n;split <;> rfl)).symm.trans h
    ·right;exact(step _ (by show(if (k==NameKind.free&&env.scope.kind == .function&&env.kindOf n==some .cell)=true then (n,NameKind.cell) else (n,k)).1=n;split <;> rfl)).symm.trans h
   obtain⟨y,hy,e⟩:=xu h' hr
   exact⟨y,mem_cons_of_mem _ hy,e⟩
theorem xx{env:Env}:∀{names:List (Str×NameKind)} {x:Str},names.lookup x=some .free→¬ (names.map fun (n,k)=>if (k==NameKind.free&&env.scope.kind == .function&&env.kindOf n==some .cell) then (n,NameKind.cell) else (n,k)).lookup x=some .local
 |[],_,h=>by simp at h
 | (n,k)::r,x,h=>by
  rw[map_cons]
  show ¬ List.lookup x ((if (k==NameKind.free&&env.scope.kind == .function&&env.kindOf n==some .cell)=true then (n,NameKind.cell) else (n,k))::_)=_
  rw[lookup_cons] at h
  by_cases hx:x=n
  ·subst hx
   simp only[beq_self_eq_true] at h
   have hk:k=.free:=Option.some.inj h
   subst hk
   split <;> simp[lookup_cons]
  ·have hb:(x==n)=false:=by simpa using hx
   rw[hb] at h
   split
   ·rw[lookup_cons,hb];exact xx h
   ·rw[lookup_cons,hb];exact xx h
section
variable{X:Cx}{scope:Scope}{N':List Str}
theorem Zo(S:xA X scope)(ok:X.Ok){x:Str}{c:Addr}(h:(xt scope X.env).lookup x=some c):X.env.cells.lookup x=some c:=by
 rcases wI h with q|⟨y,hy,e1,e2,e3⟩
 ·simp at q
 ·subst e1
  obtain⟨c',hc'⟩:=ok.has y.1 (S.free y hy e2)
  rw[hc'] at e3 ⊢
  rw[e3];rfl
theorem JC{pins:List (Addr×Obj)}{σ σ':St}{H:Hp}{s:Shared}{h1:Heap}{fp:List Addr}{t:Nat}(S:xA X scope)(I:Inv X pins σ H s)(hfp:∀b∈fp,uw X pins H b)(hlt:∀b∈fp,b<s.heap.objs.size)
  (hn:h1.Ns s.heap.objs.size fun _=>none) (hsb:∀b o,s.heap.get? b=some o→h1.get? b=some o) (hl:σ'.length=N'.length)
  (hσ:∀(i:Nat) (v:V),σ'[i]?=some (some v)→∃(x:Str) (j:Nat),N'[i]?=some x∧X.N[j]?=some x∧σ[j]?=some (some v)∧scope.names.lookup x=some .free) :
  Inv (X.comp scope N' s H s.heap.objs.size fp) [] σ' H { s with heap:=h1,toks:=t }:=by
 have hH:H s.heap.objs.size=none:=I.hok.fresh (le_refl _)
 have cl:∀{x c},(xt scope X.env).lookup x=some c→X.env.cells.lookup x=some c:=fun h=>Zo S I.ok h
 have kept:∀{c v},s.heap.IsCell c v→h1.IsCell c v:=fun ⟨o,e,d⟩=>⟨o,hsb _ o e,d⟩
 refine⟨⟨I.ok.mod,S.kind,I.ok.glob,I.ok.blt,le_refl _,fun x y c e1 e2=>I.ok.inj x y c (cl e1) (cl e2),fun x hx=>?_,fun x c hf _=>absurd hf (by simp[Cx.comp]),I.ok.hd,I.ok.frames,.inl rfl,fun b hb=>?_,I.bs,le_trans I.ok.bsz I.sz,fun b o e hb=>?_,fun b hb hs=>?_,I.stack,I.stkFree⟩,
  I.os.symm ▸ rfl,I.bare,Un.kept hsb,⟨_,hn,fun i x v e1 e2 e3=>?_⟩,fun x c e=>?_,hH,fun x c e=>I.freeC x c (cl e),fun p hp=>absurd (show p∈([]:List (Addr×Obj)) from hp) (by simp),I.hok.kept hsb,hl⟩
 ·have hx:(relabel scope X.env).names.lookup x=some .cell∨(relabel scope X.env).names.lookup x=some .free:=hx
  exact wJ (.inl (xu hx S.nocell))
 ·have hb:b∈fp:=hb
  refine⟨ne_of_lt (hlt b hb),fun x c e=>(hfp b hb).2.2.2.2.1 x c (cl e)⟩
 ·have hb:b∈fp:=hb
  rcases (hfp b hb).2.2.2.1 with z|z
  ·exact I.ok.noex b o e z
  ·exact absurd (lt_of_lt_of_le (Heap.lt_size e) (le_trans I.ok.bsz z)) (lt_irrefl _)
 ·have hb:b∈fp:=hb
  obtain⟨_,f1,f2,_⟩:=hfp b hb
  rcases mem_cons.mp (I.stkSub b hs) with z|z
  ·exact f1 z
  ·exact f2 z
 ·obtain⟨x',j,e4,e5,e6,e9⟩:=hσ i v e2
  have hy:=PySem.mem_of_lookup e9
  have e1':N'[i]?=some x:=e1
  rw[e1'] at e4;cases e4
  have kd:=S.free _ hy rfl
  obtain⟨m,hm,hl⟩:=I.loc
  obtain⟨u,ru,lk⟩:=hl j x v e5 e6 (kd.elim (fun z=>.inr (.inl z)) fun z=>.inr (.inr z))
  refine⟨u,ru,?_⟩
  rcases lk with ⟨z,_⟩|⟨z,c,hc,hcell⟩
  ·rcases kd with k|k <;> rw[k] at z <;> cases z
  ·obtain⟨c',hc'⟩:=wJ (env:=X.env) (names:=scope.names) (cs:=[]) (x:=x) (.inl ⟨_,hy,rfl,rfl⟩)
   have:=cl hc'
   rw[hc] at this;cases this
   have e3':(relabel scope X.env).names.lookup x=some .local∨(relabel scope X.env).names.lookup x=some .cell∨(relabel scope X.env).names.lookup x=some .free:=e3
   rcases e3' with q|q|q
   ·exact absurd q (xx e9)
   ·exact .inr ⟨.inl q,c,hc',kept hcell⟩
   ·exact .inr ⟨.inr q,c,hc',kept hcell⟩
 ·obtain⟨v,z⟩:=I.cell x c (cl e)
  exact⟨v,kept z⟩
end
theorem Zn{prog:Program}{w:World}{A:Around}{R:Result→Shared→Prop}{s:Shared}{elt target iter:Expr}{ifs:List Expr}{scope:Scope}{pos:Pos}{it acc:Value}{env:Env}(I:Nat→Shared→Prop)
  (turn:∀n s,I n s→wpAny (model prog w) A (pyNext it) (fun r s₁=>match r with
   |none=>R (.ok .next) s₁
   |some v=>wpAny (model prog w) A (letOwnedTupleGo target it v) (fun _ s0=>wpAny (model prog w) A (assign target env v) (fun _ s₂=>
     wpAny (model prog w) A (forIn ifs true fun c r=>if r=true then do let ok ← isTrue c env (eval c env);pure (ForInStep.yield ok) else pure (ForInStep.yield r)) (fun ok s₃=>
      if ok=true then wpAny (model prog w) A (eval elt env) (fun x s₄=>
       wpAny (model prog w) A (call (.builtin "list.append") [acc,x]) (fun _ s₅=>∃m,m<n∧I m s₅) (fun _ _=>False) s₄) (fun _ _=>False) s₃
      else ∃m,m<n∧I m s₃) (fun _ _=>False) s₂) (fun _ _=>False) s0) (fun _ _=>False) s₁) (fun _ _=>False) s)
  (n:Nat) (h:I n s) :
  codeAny (model prog w) A (.compLoop (.ListComp elt [⟨target,iter,ifs,0⟩] scope pos) 0 it acc env) R s:=by
 refine codeAny_loop rfl I (fun n s hI=>?_) n h
 show wpAny _ A ((compTurn (.ListComp elt [⟨target,iter,ifs,0⟩] scope pos) 0 it acc env).onRaise (fun x=>do noteFrame x env;theTreesLotGoes x)) _ _ s
 refine wpAny_noted ?_
 rw[compTurn_list]
 refine wpAny_bind (wpAny_standAt (wpAny_bind (wpAny_mono (turn n s hI) (fun r s₁ h₁=>?_) fun _ _ h'=>h'.elim)))
 cases r with
 |none=>exact wpAny_pure h₁
 |some v=>
  refine wpAny_bind (wpAny_mono h₁ (fun _ s0 h0=>?_) fun _ _ h'=>h'.elim)
  refine wpAny_bind (wpAny_mono h0 (fun _ s₂ h₂=>wpAny_bind (wpAny_mono h₂ (fun ok s₃ h₃=>?_) fun _ _ h'=>h'.elim)) fun _ _ h'=>h'.elim)
  cases ok with
  |false=>exact wpAny_pure ⟨rfl,h₃⟩
  |true=>
   exact wpAny_bind (wpAny_bind (wpAny_mono h₃ (fun x s₄ h₄=>wpAny_bind (wpAny_mono h₄ (fun _ s₅ h₅=>wpAny_pure (wpAny_pure ⟨rfl,h₅⟩)) fun _ _ h'=>h'.elim)) fun _ _ h'=>h'.elim))
theorem UP{M:Model}{A:Around}{env:Env}{Q:Bool→Shared→Prop}{E:Value→Shared→Prop}{s:Shared}(h:Q true s) :
  wpAny M A (forIn ([]:List Expr) true fun c r=>if r=true then do let ok ← isTrue c env (eval c env);pure (ForInStep.yield ok) else pure (ForInStep.yield r)) Q E s:=wpAny_pure h
theorem UG{M:Model}{A:Around}{env:Env}{Q:Bool→Shared→Prop}{E:Value→Shared→Prop}{s:Shared}{c:Expr}(h:wpAny M A (isTrue c env (eval c env)) Q E s) :
  wpAny M A (forIn [c] true fun c r=>if r=true then do let ok ← isTrue c env (eval c env);pure (ForInStep.yield ok) else pure (ForInStep.yield r)) Q E s:=by
 rw[List.forIn_cons]
 simp only[if_true]
 refine wpAny_bind (wpAny_bind (wpAny_mono h (fun b s' q=>wpAny_pure ?_) fun _ _ e=>e))
 exact wpAny_pure q
noncomputable def PTs(Y:Cx)(ifs:List Expr)(t:TT):Prop:=∀(pins:List (Addr×Obj)) (s:Shared) (σ:St) (H:Hp) (Q:Bool→Hp→Prop),Inv Y pins σ H s→t σ H Q →
 wpAny (model Y.prog Y.w) Y.A (forIn ifs true fun c r=>if r=true then do let ok ← isTrue c Y.env (eval c Y.env);pure (ForInStep.yield ok) else pure (ForInStep.yield r)) (TP Y pins σ Q) Y.xe s
theorem Qb{Y:Cx}:PTs Y [] (fun _ H Q=>Q true H):=fun pins s σ H Q I h=>UP ⟨H,I,h⟩
theorem Qa{Y:Cx}{c:Expr}{t:TT}(h:PT Y c t):PTs Y [c] t:=fun pins s σ H Q I q=>UG (h pins s σ H Q I q)
noncomputable def Yf(s0:St→St)(wi:TI)(g:TG)(ti:TT)(te:TE):TE:=fun σ H Q=>wi σ H fun J H1=>∀acc,H1 acc=none→∃W:Nat→Nat→St→Hp→Prop,(∃m,W 0 m (s0 σ) (upd H1 acc (.lst [])))∧∀i m σ1 H,W i m σ1 H →
 (J.stop i H∧Q (.ref acc) H)∨(J.go i H∧∀x H',J.yld i H x H'→g x σ1 H' fun σ2 H2=>ti σ2 H2 fun b H3=>
  if b=true then te σ2 H3 fun y H4=>∃ys,H4 acc=some (.lst ys)∧ys.length<sizeLine∧∃m',m'<m∧W (i+1) m' σ2 (upd H4 acc (.lst (ys++[y]))) else ∃m',m'<m∧W (i+1) m' σ2 H3)
section
variable{X:Cx}{scope:Scope}{N':List Str}{tg iter elt:Expr}{ifs:List Expr}{pos:Pos}{wi:TI}{g:TG}{ti:TT}{te:TE}{s0:St→St}
theorem WJ{P:Program}{w:World}{H:Hp}{h h':Heap}{C:Addr}(ok:HOk P w H h)(hC:H C=none)(k:∀b o,b≠C→h.get? b=some o→h'.get? b=some o):HOk P w H h':=fun b u e=>by
 refine(ok b u e).stay (fun c v hc q=>k c v ?_ q) (fun _ q=>q) fun _ _ q=>q
 rintro rfl
 rcases hc with z|z
 ·subst z;rw[hC] at e;cases e
 ·rw[hC] at z;cases z
theorem jD{pins:List (Addr×Obj)}{σ:St}{H:Hp}{s:Shared}{QQ:V→Hp→Prop}{J:It}{fp:List Addr}{it acc:Addr}{tn:Nat→Heap→Prop}{RR:Addr→Result→Shared→Prop}{E:Value→Shared→Prop}{W:Nat→Nat→St→Hp→Prop}{m0:Nat}
  (S:xA X scope) (hc:X.calm=true) (hl:(s0 σ).length=N'.length)
  (hσ:∀(i:Nat) (v:V),(s0 σ)[i]?=some (some v)→∃(x:Str) (j:Nat),N'[i]?=some x∧X.N[j]?=some x∧σ[j]?=some (some v)∧scope.names.lookup x=some .free)
  (hg:∀s H C fp,PG (X.comp scope N' s H C fp) tg g) (ht:∀s H C fp,PTs (X.comp scope N' s H C fp) ifs ti) (he:∀s H C fp,PE (X.comp scope N' s H C fp) elt te)
  (I:Inv X pins σ H s) (T:jS X.prog X.w X.K tg J fp it tn) (st:tn 0 s.heap) (hfp:∀b∈fp,uw X pins H b) (hlt:∀b∈fp,b<s.heap.objs.size) (hacc:acc<s.heap.objs.size)
  (w0:W 0 m0 (s0 σ) H) (turn:∀i m σ1 H,W i m σ1 H→(J.stop i H∧QQ (.ref acc) H)∨(J.go i H∧∀x H',J.yld i H x H'→g x σ1 H' fun σ2 H2=>ti σ2 H2 fun b H3=>
    if b=true then te σ2 H3 fun y H4=>∃ys,H4 acc=some (.lst ys)∧ys.length<sizeLine∧∃m',m'<m∧W (i+1) m' σ2 (upd H4 acc (.lst (ys++[y]))) else ∃m',m'<m∧W (i+1) m' σ2 H3))
  (hRR:∀s',(∃m,s'.heap.Ns s.heap.objs.size m)→(∀h',Heap.SameBut s.heap.objs.size s'.heap h'→EP X pins σ (fun v H'=>QQ v H'∧H' s.heap.objs.size=none) (.ref acc) { s' with heap:=h' })→RR s.heap.objs.size (.ok .next) s') :
  wpAny (model X.prog X.w) X.A (newFunctionEnv scope X.env.globals (xt scope X.env) [] X.env.qual none .none (some X.env)) (fun cenv s₄=>
   codeAny (model X.prog X.w) X.A (.compStart (.ListComp elt [⟨tg,iter,ifs,0⟩] scope pos) 0 (.ref it) (.ref acc) { cenv with scope:=relabel scope X.env }) (RR cenv.locals) s₄) E s:=by
 refine wpAny_newFunctionEnv S.nocell (by intro y hy;simp at hy) (fun h1 hns hsb=>?_) S.kind
 have keep3:∀b o,s.heap.get? b=some o→h1.get? b=some o:=fun b o e=>hsb.extBut b o (ne_of_lt (Heap.lt_size e)) (get?_push_of_some _ e)
 have Y0:Inv (X.comp scope N' s H s.heap.objs.size fp) [] (s0 σ) H { s with heap:=h1,toks:=s.toks+([]:List (Str×Value)).length }:=JC S I hfp hlt hns keep3 hl hσ
 have fpY:∀{H':Hp},(∀b∈fp,H' b=none)→∀b∈fp,uw (X.comp scope N' s H s.heap.objs.size fp) [] H' b:=fun {H'} hn b hb=>by
  obtain⟨f0,f1,f2,f3,f4,f5⟩:=hfp b hb
  refine⟨hn b hb,ne_of_lt (hlt b hb),fun z=>?_,.inl hb,fun x c e=>f4 x c (Zo S I.ok e),fun p hp=>absurd (show p∈([]:List (Addr×Obj)) from hp) (by simp)⟩
  rcases mem_cons.mp (I.stkSub b z) with q|q
  ·exact f1 q
  ·exact f2 q
 have st1:tn 0 h1:=T.keep _ _ _ st fun b hb o e=>keep3 b o e
 have loop:∀s3:Shared,s3 = { s with heap:=h1,toks:=s.toks+([]:List (Str×Value)).length } →
   codeAny (model X.prog X.w) X.A (.compLoop (.ListComp elt [⟨tg,iter,ifs,0⟩] scope pos) 0 (.ref it) (.ref acc) (X.comp scope N' s H s.heap.objs.size fp).env) (RR s.heap.objs.size) s3:=by
  rintro s3 rfl
  refine Zn (fun n s'=>∃i σ' H',Inv (X.comp scope N' s H s.heap.objs.size fp) [] σ' H' s'∧tn i s'.heap∧(∀b∈fp,H' b=none)∧W i n σ' H') ?_ m0 ⟨0,s0 σ,H,Y0,st1,fun b hb=>(hfp b hb).1,w0⟩
  rintro n s4 ⟨i,σ4,H4,I4,st4,fr4,w4⟩
  rcases turn i n σ4 H4 w4 with ⟨stop,qn⟩|⟨go,step⟩
  ·refine thn (T.done (X.comp scope N' s H s.heap.objs.size fp) rfl rfl rfl hc i [] s4 σ4 H4 _ I4 (fpY fr4) st4 stop) fun r s5 z_=>?_
   obtain⟨hr,I5⟩:=z_
   subst hr
   obtain⟨m5,n5,_⟩:=id I5.loc
   have hC:H4 s.heap.objs.size=none:=I5.free
   refine hRR s5 ⟨m5,n5⟩ fun h' sb=>⟨.ref acc,H4,?_,rfl,qn,hC⟩
   refine I.call' (s':={ s5 with heap:=h' }) (ch:=fp) I5.os ⟨fun b o e n hb hx=>?_,fun b o e n hb hx=>?_,fun b o e n hx=>I5.base.free b o e n hx,fun b o e hx=>?_,I5.base.tups,I5.base.frzs,I5.base.tbls⟩ (WJ I5.hok hC fun b o hb e=>(sb.2 b hb).trans e) I5.bare fun b hb=>?_
   ·exact(sb.2 b (ne_of_lt (Heap.lt_size e))).trans (I5.base.keep b o e n hb hx)
   ·obtain⟨sl,q⟩:=I5.base.slot b o e n hb hx
    exact⟨sl,(sb.2 b (ne_of_lt (Heap.lt_size e))).trans q⟩
   ·obtain⟨o',q⟩:=I5.base.there b o e hx
    exact⟨o',(sb.2 b (ne_of_lt (Heap.lt_size e))).trans q⟩
   ·obtain⟨f0,f1,f2,f3,f4,f5⟩:=hfp b hb
    exact⟨f3,f1,f4,f5⟩
  ·refine thn (T.item (X.comp scope N' s H s.heap.objs.size fp) rfl rfl rfl hc i [] s4 σ4 H4 _ I4 (fpY fr4) st4 go) fun r s5 z_=>?_
   obtain⟨u,hr,h5⟩:=z_
   subst hr
   refine thn h5 fun _ s6 z_=>?_
   obtain⟨x,H6,I6,r6,y6,st6,fr6⟩:=z_
   have I6':=I6.pinned (fpY fr6) (T.obj _ _ st6)
   refine thn (hg _ _ _ _ _ s6 σ4 H6 x u _ I6' r6 (step x H6 y6)) fun _ s7 z_=>?_
   obtain⟨σ7,H7,I7,q7⟩:=z_
   refine thn (ht _ _ _ _ _ s7 σ7 H7 _ I7 q7) fun ok s8 z_=>?_
   obtain⟨H8,I8,q8⟩:=z_
   have again:∀{s9:Shared} {H9:Hp} {m':Nat},Inv (X.comp scope N' s H s.heap.objs.size fp) ([]++uc fp s6.heap) σ7 H9 s9→m'<n→W (i+1) m' σ7 H9→∃m,m<n∧∃i σ' H',Inv (X.comp scope N' s H s.heap.objs.size fp) [] σ' H' s9∧tn i s9.heap∧(∀b∈fp,H' b=none)∧W i m σ' H':=fun {s9 H9 m'} I9 hm w9=>by
    refine⟨m',hm,i+1,σ7,H9,I9.unpinned,T.keep _ _ _ st6 fun b hb o e=>(I9.pin (b,o) (mem_append_right _ (mem_append_right _ (xf hb e)))).1,fun b hb=>?_,w9⟩
    obtain⟨o,e,d⟩:=T.obj _ _ st6 b hb
    exact(I9.pin (b,o) (mem_append_right _ (mem_append_right _ (xf hb e)))).2.1
   cases ok with
   |false=>
    rw[if_neg (by simp)] at q8
    obtain⟨m',hm,w8⟩:=q8
    exact again I8 hm w8
   |true=>
    rw[if_pos rfl] at q8
    refine thn (he _ _ _ _ _ s8 σ7 H8 _ I8 q8) fun y s9 z_=>?_
    obtain⟨z,H9,I9,r9,ys,e9,l9,m',hm,w9⟩:=z_
    refine thn (uh _ s9 σ7 H9 (.ref acc) [z] (.ref acc) [y] (fun _ H'=>H'=upd H9 acc (.lst (ys++[z]))) I9 rfl (.cons r9 .nil) ⟨acc,ys,z,rfl,rfl,e9,l9,rfl⟩) fun _ s10 z_=>?_
    obtain⟨_,H10,I10,_,e10⟩:=z_
    subst e10
    exact again I10 hm w9
 exact codeAny_compStart_list (loop _ rfl) (T.self _ 0 _ _ _ st1 (loop _ rfl))
end
section
variable{X:Cx}{scope:Scope}{N':List Str}{tg iter elt:Expr}{ifs:List Expr}{pos:Pos}{wi:TI}{g:TG}{ti:TT}{te:TE}{s0:St→St}
theorem Jq{pins:List (Addr×Obj)}{σ:St}{H:Hp}{s:Shared}{J:It}{fp:List Addr}{it:Addr}{tn:Nat→Heap→Prop}(T:jS X.prog X.w X.K tg J fp it tn)(st:tn 0 s.heap):∀b∈fp,b<s.heap.objs.size:=fun b hb=>by
 obtain⟨o,e,_⟩:=T.obj 0 _ st b hb
 exact Heap.lt_size e
theorem Qm(S:xA X scope)(hc:X.calm=true)(hl:∀σ:St,σ.length=X.N.length→(s0 σ).length=N'.length)
  (hσ:∀(σ:St) (i:Nat) (v:V),(s0 σ)[i]?=some (some v)→∃(x:Str) (j:Nat),N'[i]?=some x∧X.N[j]?=some x∧σ[j]?=some (some v)∧scope.names.lookup x=some .free)
  (hi:PI X tg iter wi) (hg:∀s H C fp,PG (X.comp scope N' s H C fp) tg g) (ht:∀s H C fp,PTs (X.comp scope N' s H C fp) ifs ti) (he:∀s H C fp,PE (X.comp scope N' s H C fp) elt te)
  (hs:∀x,foldedSetIterable iter X.env x=pure x:=by intro _;rfl):PE X (.ListComp elt [⟨tg,iter,ifs,0⟩] scope pos) (Yf s0 wi g ti te):=by
 intro pins s σ H Q I h
 rw[eval_ListComp]
 have hclos:=x9 (scope:=scope) (env:=X.env) fun y hy hk=>Option.isSome_iff_exists.mpr (I.ok.has y.1 (S.free y hy hk))
 refine wpAny_comprehension_free (use:=none) rfl hs hclos S.kind S.locs (thn (hi pins s σ H _ I h) fun x s1 h1=>thn h1 fun itv s2 h2=>?_)
 obtain⟨it,fp,tn,J,H2,e,I2,T,st2,f2,hw⟩:=h2
 subst e
 have hf:H2 s2.heap.objs.size=none:=I2.hok.fresh (le_refl _)
 obtain⟨W,⟨m0,w0⟩,turn⟩:=hw _ hf
 have hlt:=Jq (pins:=pins) (σ:=σ) (H:=H2) T st2
 refine wpAny_newObj_type ?_
 have I3:Inv X pins σ (upd H2 s2.heap.objs.size (.lst [])) { s2 with heap:=s2.heap.push { cls:=.type "list", dict:=none,data:=.seq ([]:List Value).toArray } }:=
  I2.laid (t':=s2.toks) (o:=.lst []) (fun b u e=>get?_push_of_some _ e) (le_refl _) ⟨zero_le _,[],0,.nil,Heap.get?_push_size _ rfl⟩
 have hsz:s2.heap.objs.size<(s2.heap.push { cls:=.type "list", dict:=none,data:=.seq ([]:List Value).toArray }).objs.size:=by rw[Heap.size_push];exact lt_succ_self _
 refine jD (s0:=s0) (QQ:=Q) (W:=W) (m0:=m0) S hc (hl σ I2.len) (hσ σ) hg ht he I3 T (T.keep _ _ _ st2 fun b hb o e=>get?_push_of_some _ e) (fun b hb=>?_) (fun b hb=>lt_trans (hlt b hb) hsz) hsz w0 turn fun s' ⟨m,hn⟩ hq=>⟨m,hn,fun h' sb=>let ⟨v,H',I',r',q',_⟩:=hq h' sb;⟨v,H',I',r',q'⟩⟩
 obtain⟨f0,f1,f2,f3⟩:=f2 b hb
 exact⟨by rw[zg (ne_of_lt (hlt b hb))];exact f0,f1,f2,f3⟩
theorem Qf{i:Nat}{y:Str}{py spos:Pos}(hN:X.N.Nodup)(hiN:X.N[i]?=some y)(hy:X.env.scope.names.lookup y=some .local)
  (hsw:swapsWith (.ListComp elt [⟨tg,iter,ifs,0⟩] scope pos) (some (.Name y py)) spos.line X.env=pure true)
  (S:xA X scope) (hc:X.calm=true) (hl:∀σ:St,σ.length=X.N.length→(s0 σ).length=N'.length)
  (hσ:∀(σ:St) (i:Nat) (v:V),(s0 σ)[i]?=some (some v)→∃(x:Str) (j:Nat),N'[i]?=some x∧X.N[j]?=some x∧σ[j]?=some (some v)∧scope.names.lookup x=some .free)
  (hi:PI X tg iter wi) (hg:∀s H C fp,PG (X.comp scope N' s H C fp) tg g) (ht:∀s H C fp,PTs (X.comp scope N' s H C fp) ifs ti) (he:∀s H C fp,PE (X.comp scope N' s H C fp) elt te)
  (hs:∀x,foldedSetIterable iter X.env x=pure x:=by intro _;rfl):PS X (.Assign [.Name y py] (.ListComp elt [⟨tg,iter,ifs,0⟩] scope pos) spos) (G9 (Yf s0 wi g ti te) (YU i)):=by
 intro pins s σ H D I h
 rw[exec_Assign_Name_used _ _ _ _ hsw]
 refine wpAny_bind (wpAny_standAt (wpAny_bind ?_))
 show wpAny _ X.A (do let _ ← comprehension (.ListComp elt [⟨tg,iter,ifs,0⟩] scope pos) scope X.env _ (newList []) false (eval iter X.env) (some (assign (.Name y py) X.env))) _ _ s
 have hclos:=x9 (scope:=scope) (env:=X.env) fun y hy hk=>Option.isSome_iff_exists.mpr (I.ok.has y.1 (S.free y hy hk))
 refine wpAny_bind (wpAny_mono (wpAny_comprehension_free (use:=some (assign (.Name y py) X.env)) (Q:=fun _ s'=>SP X pins D .next s') rfl hs hclos S.kind S.locs
  (thn (hi pins s σ H _ I h) fun x s1 h1=>thn h1 fun itv s2 h2=>?_)) (fun _ s' hq=>wpAny_pure (wpAny_pure hq)) fun _ _ e=>e)
 obtain⟨it,fp,tn,J,H2,e,I2,T,st2,f2,hw⟩:=h2
 subst e
 have hf:H2 s2.heap.objs.size=none:=I2.hok.fresh (le_refl _)
 obtain⟨W,⟨m0,w0⟩,turn⟩:=hw _ hf
 have hlt:=Jq (pins:=pins) (σ:=σ) (H:=H2) T st2
 refine wpAny_newObj_type ?_
 have I3:Inv X pins σ (upd H2 s2.heap.objs.size (.lst [])) { s2 with heap:=s2.heap.push { cls:=.type "list", dict:=none,data:=.seq ([]:List Value).toArray } }:=
  I2.laid (t':=s2.toks) (o:=.lst []) (fun b u e=>get?_push_of_some _ e) (le_refl _) ⟨zero_le _,[],0,.nil,Heap.get?_push_size _ rfl⟩
 have hsz:s2.heap.objs.size<(s2.heap.push { cls:=.type "list", dict:=none,data:=.seq ([]:List Value).toArray }).objs.size:=by rw[Heap.size_push];exact lt_succ_self _
 refine jD (s0:=s0) (QQ:=fun x H1=>YU i x σ H1 D.nx) (W:=W) (m0:=m0) S hc (hl σ I2.len) (hσ σ) hg ht he I3 T (T.keep _ _ _ st2 fun b hb o e=>get?_push_of_some _ e) (fun b hb=>?_) (fun b hb=>lt_trans (hlt b hb) hsz) hsz w0 turn fun s' ⟨m,hn⟩ hq=>?_
 ·obtain⟨f0,f1,f2,f3⟩:=f2 b hb
  exact⟨by rw[zg (ne_of_lt (hlt b hb))];exact f0,f1,f2,f3⟩
 ·obtain⟨v,H5,I5,r5,q5,hC⟩:=hq s'.heap (.refl ..)
  have I5:Inv X pins σ H5 s':=I5
  show wpAny _ X.A (assign (.Name y py) X.env _) _ _ s'
  refine wpAny_assign_Name (j2 I5 hN hiN (.inl hy) r5 (fun s6 I6 z_=>?_) (.inr hy))
  obtain⟨a,sb,ha⟩:=z_
  have lt3:=I3.lt
  have ca:∀x c,X.env.cells.lookup x=some c→c<(s2.heap.push { cls:=.type "list", dict:=none,data:=.seq ([]:List Value).toArray }).objs.size:=fun x c e=>by
   obtain⟨v,z⟩:=I3.cell x c e
   exact z.lt
  have hne:(s2.heap.push { cls:=.type "list", dict:=none,data:=.seq ([]:List Value).toArray }).objs.size≠a:=by
   rcases ha with rfl|ha
   ·exact ne_of_gt lt3
   ·exact ne_of_gt (ca _ _ ha)
  refine⟨m,hn.sameBut sb hne,fun h' sb'=>⟨_,H5,?_,q5⟩⟩
  refine I6.turned (t':=s6.toks) (it:=(s2.heap.push { cls:=.type "list", dict:=none,data:=.seq ([]:List Value).toArray }).objs.size) (fun b o hb e=>(sb'.2 b hb).trans e) hC (ne_of_gt lt3) (.inr I3.sz) (fun x c e=>ne_of_lt (ca x c e)) fun p hp=>?_
  exact ne_of_lt (Heap.lt_size (I3.pin p hp).1)
end
noncomputable def xq(set:FG)(ft:FT)(fe:FE)(τ:DS):List D→Rs (List D)
 |[]=>.ok []
 |d::r=>match set d τ with
  |.ok τ1=>match ft τ1 with
   |.ok true=>match fe τ1 with
    |.ok x=>(xq set ft fe τ r).bind fun xs=>.ok (x::xs)
    |_=>.no
   |.ok false=>xq set ft fe τ r
   |_=>.no
  |_=>.no
noncomputable def vq:Option (Option Sl)→Option Sl
 | some (some (.val d))=>some (.val d)
 | some (some (.obr c fs))=>some (.obr c fs)
 | some (some (.obj _ c fs))=>some (.obr c fs)
 |_=>none
noncomputable def xv(k:Nat)(idx:List Nat)(τ:DS):DS:=List.replicate k none++idx.map fun j=>vq τ[j]?
noncomputable def wT(k:Nat)(idx:List Nat)(σ:St):St:=List.replicate k none++idx.map fun j=>(σ[j]?).join
noncomputable def yY(k:Nat)(idx:List Nat)(fi:FA)(set:FG)(ft:FT)(fe:FE):FA:=fun τ=>(fi τ).bind fun ds=>match xq set ft fe (xv k idx τ) ds with
 |.ok xs=>if xs.length≤sizeLine then .ok xs else .no
 |_=>.no
noncomputable def wX(τ:DS):Prop:=(∀(i:Nat) es,τ[i]?≠some (some (.own es)))∧∀(i n:Nat) c fs,τ[i]?≠some (some (.obj n c fs))
structure jI(set:FG):Prop where
 ov:∀d e τ τ1,set e τ=.ok τ1→set d τ1=set d τ
 no:∀d τ τ1,set d τ=.ok τ1→wX τ→wX τ1
theorem ug{τ:DS}{i:Nat}{d:D}(h:wX τ):wX (τ.set i (some (.val d))):=⟨fun j es e=>by
 by_cases hij:i=j
 ·subst hij
  rw[getElem?_set] at e
  simp only[if_true] at e
  split at e <;> cases e
 ·rw[getElem?_set_ne hij] at e;exact h.1 j es e,fun j n c fs e=>h.2 j n c fs (zU (s:=some (.val d)) rfl rfl e).2⟩
theorem vx(i:Nat):jI (gNm i):=⟨fun d e τ τ1 h=>by
 unfold gNm at h ⊢;cases h;rw[set_set],fun d τ τ1 h n=>by unfold gNm at h;cases h;exact ug n⟩
theorem u7(i j:Nat):jI (gPr i j):=⟨fun d e τ τ1 h=>by
 unfold gPr at h ⊢
 cases q:jf e with
 |none=>rw[q] at h;cases h
 |some xy=>
  obtain⟨x,y⟩:=xy
  rw[q] at h;cases h
  cases q2:jf d with
  |none=>rfl
  |some zw=>
   obtain⟨z,w⟩:=zw
   by_cases hij:i=j
   ·subst hij;simp[set_set]
   ·have e1:((τ.set i (some (.val x))).set j (some (.val y))).set i (some (.val z))=(τ.set i (some (.val z))).set j (some (.val y)):=by
     rw[List.set_comm _ _ (Ne.symm hij),set_set]
    simp only
    rw[e1,set_set]
    , fun d τ τ1 h n=>by
 unfold gPr at h
 cases q:jf d with
 |none=>rw[q] at h;cases h
 |some xy=>
  obtain⟨x,y⟩:=xy
  rw[q] at h;cases h
  exact ug (ug n)⟩
theorem wm(k:Nat)(idx:List Nat)(τ:DS):∀(i:Nat) es,(xv k idx τ)[i]?≠some (some (.own es)):=fun i es e=>by
 unfold xv at e
 by_cases hi:i<k
 ·rw[getElem?_append_left (by simpa using hi),getElem?_replicate] at e
  simp[hi] at e
 ·rw[getElem?_append_right (by simpa using hi),getElem?_map] at e
  cases q:idx[i-(List.replicate k (none:Option Sl)).length]? with
  |none=>rw[q] at e;cases e
  |some j=>
   rw[q] at e
   simp only[Option.map_some,Option.some.injEq] at e
   unfold vq at e
   split at e <;> cases e
theorem ve(k:Nat)(idx:List Nat)(τ:DS):∀(i n:Nat) c fs,(xv k idx τ)[i]?≠some (some (.obj n c fs)):=fun i n c fs e=>by
 unfold xv at e
 by_cases hi:i<k
 ·rw[getElem?_append_left (by simpa using hi),getElem?_replicate] at e
  simp[hi] at e
 ·rw[getElem?_append_right (by simpa using hi),getElem?_map] at e
  cases q:idx[i-(List.replicate k (none:Option Sl)).length]? with
  |none=>rw[q] at e;cases e
  |some j=>
   rw[q] at e
   simp only[Option.map_some,Option.some.injEq] at e
   unfold vq at e
   split at e <;> cases e
theorem yS(k:Nat)(idx:List Nat)(τ:DS):wX (xv k idx τ):=⟨wm k idx τ,ve k idx τ⟩
theorem UI{k:Nat}{idx:List Nat}{τ:DS}{i:Nat}{c:Str}{fs:List (Str×D)}(e:(xv k idx τ)[i]?=some (some (.obr c fs))):∃j,k≤i∧idx[i-k]?=some j∧((∃n,τ[j]?=some (some (.obj n c fs)))∨τ[j]?=some (some (.obr c fs))):=by
 unfold xv at e
 by_cases hi:i<k
 ·rw[getElem?_append_left (by simpa using hi),getElem?_replicate] at e
  simp[hi] at e
 ·rw[getElem?_append_right (by simpa using hi),getElem?_map] at e
  simp only[List.length_replicate] at e
  cases q:idx[i-k]? with
  |none=>rw[q] at e;cases e
  |some j=>
   rw[q] at e
   simp only[Option.map_some,Option.some.injEq] at e
   unfold vq at e
   split at e <;> cases e
   ·exact⟨j,by lia,rfl,.inr (by assumption)⟩
   ·exact⟨j,by lia,rfl,.inl ⟨_,by assumption⟩⟩
theorem ObsOk.read{K:Frag}{F H:Hp}{τ:DS}{σ:St}(n:wX τ)(h:∀(i:Nat) (c:Str) (fs:List (Str×D)),τ[i]?=some (some (.obr c fs))→∃a C dx vs,σ[i]?=some (some (.ref a))∧H a=some (.ins C dx vs)∧nsIn K mainGlobals c=some (some (.ref C))∧Flds K F H c fs vs):ObsOk K F τ σ H:=
 ⟨fun i m c fs h=>absurd h (n.2 i m c fs),fun i j m c c' fs a _ h=>absurd h (n.2 i m c fs),h,fun i j m c c' fs a a' l _ h=>absurd h (n.2 i m c fs),fun i j c ds a l _ h=>absurd h (n.1 j ds)⟩
theorem RV.free_upd{K:Frag}{F H:Hp}{τ:DS}{σ:St}{p:Addr}{o:HO}(R:RV K F τ σ H)(n:wX τ)(hp:F p=none)(hl:H p=none∨∃vs,H p=some (.lst vs))(hq:∀(i:Nat) (c:Str) (a:Addr),ObS τ[i]? c→σ[i]?=some (some (.ref a))→p∉Lof H c a)(ho:∀a,o≠.own a:=by intro _ h;cases h):RV K F τ σ (upd H p o):=
 ⟨fun b u e=>by
  have:b≠p:=fun z=>by subst z;rw[hp] at e;cases e
  rw[zg this];exact R.fh b u e,R.len,R.val,fun i es e=>absurd e (n.1 i es),fun i j ds es a _ h=>absurd h (n.1 i ds),R.tt.step (fun _ _ e=>.inl e) (fun b o e n=>by
  have:b≠p:=fun z=>by
   subst z
   rcases hl with z|⟨vs,z⟩
   ·rw[z] at e;cases e
   ·rw[z] at e;cases e;exact n _ rfl
  rw[zg this];exact e) (wD ho),R.ob.updL hl hq⟩
theorem RS.apart{K:Frag}{B Z F H:Hp}{τ:DS}{σ:St}{p:Addr}(R:RS K B Z F τ σ H)(n:wX τ)(hp:B p=none):∀(i:Nat) (c:Str) (a:Addr),ObS τ[i]? c→σ[i]?=some (some (.ref a))→p∉Lof H c a:=fun i c a h e hm=>by
 rcases h with ⟨m,fs,h⟩|⟨fs,h⟩
 ·exact n.2 i m c fs h
 ·obtain⟨C,dx,vs,h1,h2⟩:=R.ro i c fs a h e
  rw[Lof.ins (R.bh _ _ h1)] at hm
  obtain⟨ws,h3⟩:=h2 p hm
  rw[hp] at h3;cases h3
theorem RS.free_upd{K:Frag}{B Z F H:Hp}{τ:DS}{σ:St}{p:Addr}{vs:List V}(R:RS K B Z F τ σ H)(n:wX τ)(hb:B p=none)(hp:F p=none)(hl:H p=none∨∃vs,H p=some (.lst vs)):RS K B Z F τ σ (upd H p (.lst vs)):=
 ⟨R.rv.free_upd n hp hl (R.apart n hb),fun a o e=>by
  have:a≠p:=fun z=>by subst z;rw[hb] at e;cases e
  rw[zg this];exact R.bh a o e,R.zf,R.nb,fun i ds a h=>absurd h (n.1 i ds),fun i m c fs a h=>absurd h (n.2 i m c fs),fun a0 dx h1 h2 i m c fs h=>absurd h (n.2 i (m+1) c fs),R.ro⟩
theorem X7{K:Frag}{F H:Hp}{τ:DS}{σ:St}(k:Nat)(idx:List Nat)(R:RV K F τ σ H):RV K F (xv k idx τ) (wT k idx σ) H:=by
 refine⟨R.fh,by simp[xv,wT],fun i d e=>?_,fun i es e=>absurd e (wm k idx τ i es),fun i j ds es a _ h=>absurd h (wm k idx τ i ds),R.tt,ObsOk.read (yS k idx τ) fun i c fs e=>?_⟩
 rotate_left
 ·obtain⟨j,hk,hj,h⟩:=UI e
  have es:∀v,σ[j]?=some (some v)→(wT k idx σ)[i]?=some (some v):=fun v h=>by
   unfold wT
   rw[getElem?_append_right (by simpa using hk),getElem?_map]
   simp[hj,h]
  rcases h with ⟨n,h⟩|h
  ·obtain⟨a,h1,C,dx,vs,h2,_,h4,h5,_⟩:=R.ob.at_ j n c fs h
   exact⟨a,C,dx,vs,es _ h1,h2,h4,h5⟩
  ·obtain⟨a,C,dx,vs,h1,h2,h4,h5⟩:=R.ob.rd j c fs h
   exact⟨a,C,dx,vs,es _ h1,h2,h4,h5⟩
 unfold xv at e
 unfold wT
 by_cases hi:i<k
 ·rw[getElem?_append_left (by simpa using hi),getElem?_replicate] at e
  simp[hi] at e
 ·rw[getElem?_append_right (by simpa using hi),getElem?_map] at e
  rw[getElem?_append_right (by simpa using hi),getElem?_map]
  simp only[List.length_replicate] at e ⊢
  cases q:idx[i-k]? with
  |none=>rw[q] at e;cases e
  |some j=>
   rw[q] at e
   simp only[Option.map_some,Option.some.injEq] at e
   have:τ[j]?=some (some (.val d)):=by
    unfold vq at e
    split at e <;> cases e
    assumption
   obtain⟨v,h1,h2⟩:=R.val j d this
   exact⟨v,by simp[h1],h2⟩
theorem X8{K:Frag}{F H:Hp}{τ:DS}{σ:St}(k:Nat)(idx:List Nat)(R:RV K F τ σ H):RS K H F F (xv k idx τ) (wT k idx σ) H:=
 ⟨X7 k idx R,Hh.refl H,Same.refl F,fun a o e=>.inl e,fun i ds a h=>absurd h (wm k idx τ i ds),fun i m c fs a h=>absurd h (ve k idx τ i m c fs),fun a0 dx h1 h2 i m c fs h=>absurd h (ve k idx τ i (m+1) c fs),fun i c fs a h e=>by
  obtain⟨a',C,dx,vs,h1,h2,_,h5⟩:=(X7 k idx R).ob.rd i c fs h
  rw[e] at h1;cases h1
  exact⟨C,dx,vs,h2,fun l hl=>(h5.own hl).2⟩⟩
noncomputable def y9(H:Hp)(p:Addr):Hp:=fun b=>if b=p then none else H b
theorem xU(H:Hp)(p:Addr):y9 H p p=none:=by unfold y9;rw[if_pos rfl]
theorem uq{H:Hp}{p b:Addr}(h:b≠p):y9 H p b=H b:=by unfold y9;rw[if_neg h]
theorem vt(H:Hp)(p:Addr)(o:HO):upd (y9 H p) p o=upd H p o:=by
 funext b;unfold upd y9;split <;> rfl
theorem vV{F1 H1 F2 Hm F5 H5:Hp}{acc:Addr}{ls:List V}(a:Ext F1 H1 F2 Hm)(hm:Hm acc=none)(b:Ext F2 (upd Hm acc (.lst ls)) F5 H5):Ext F1 H1 F5 (y9 H5 acc)∧F5 acc=none:=by
 have hf5:F5 acc=none:=by
  cases q:F5 acc with
  |none=>rfl
  |some o=>
   rcases b.nw acc o q with z|z
   ·rw[zA a.fh hm] at z;cases z
   ·rw[zk] at z;cases z
 have h1:H1 acc=none:=yx a.hh hm
 have ha:H5 acc=some (.lst ls):=b.hh acc _ zk
 refine⟨⟨a.ff.trans b.ff,fun c o e=>?_,fun c o e=>?_,fun c o e=>?_,fun t=>?_⟩,hf5⟩
 ·have n:c≠acc:=fun z=>by subst z;rw[h1] at e;cases e
  rw[uq n]
  exact((a.hh.trans (.of (zS hm))).trans b.hh) c o e
 ·have n:c≠acc:=fun z=>by subst z;rw[hf5] at e;cases e
  rw[uq n];exact b.fh c o e
 ·rcases b.nw c o e with z|z
  ·exact a.nw c o z
  ·have n:c≠acc:=fun z'=>by subst z';rw[zk] at z;cases z
   rw[zg n] at z
   exact .inr (yx a.hh z)
 ·have t2:=b.tt ((a.tt t).step (F':=F2) (H':=upd Hm acc (.lst ls)) (fun _ _ e=>.inl e) (fun c o e _=>by rw[zg (zt e hm)];exact e) (wD fun _ z=>nomatch z))
  exact t2.step (fun _ _ e=>.inl e) (fun c o e n=>by
   have:c≠acc:=fun z=>by subst z;rw[ha] at e;cases e;exact n _ rfl
   rw[uq this];exact e) fun d a e=>by
   unfold y9 at e
   split at e
   ·cases e
   ·exact e
noncomputable def FreeOk(scope:Scope)(N:List Str):List Str→List Nat→Prop
 |[],[]=>True
 |x::xs,j::js=>N[j]?=some x∧scope.names.lookup x=some .free∧FreeOk scope N xs js
 |_,_=>False
theorem FreeOk.len{scope:Scope}{N:List Str}:∀{xs:List Str} {js:List Nat},FreeOk scope N xs js→xs.length=js.length
 |[],[],_=>rfl
 |_::xs,_::js,h=>by rw[length_cons,length_cons,FreeOk.len h.2.2]
theorem FreeOk.get{scope:Scope}{N:List Str}:∀{xs:List Str} {js:List Nat} {p j:Nat},FreeOk scope N xs js→js[p]?=some j→∃x,xs[p]?=some x∧N[j]?=some x∧scope.names.lookup x=some .free
 |[],[],_,_,_,e=>by simp at e
 |x::xs,i::js,0,j,h,e=>by simp at e;subst e;exact⟨x,rfl,h.1,h.2.1⟩
 |x::xs,i::js,p+1,j,h,e=>by
  obtain⟨y,h1,h2⟩:=FreeOk.get (p:=p) h.2.2 (by simpa using e)
  exact⟨y,by simpa using h1,h2⟩
noncomputable def u0(osc scope:Scope):Bool:=(match scope.kind with | .function=>true|_=>false)&&scope.names.all (fun y=>match y.2 with
 |.cell=>false
 |.local=>(match scope.names.lookup y.1 with|some .local=>true|_=>false)
 |.free=>(match osc.names.lookup y.1 with|some .cell=>true|some .free=>true|_=>false)
 |_=>true)
theorem vY{X:Cx}{scope:Scope}(h:u0 X.env.scope scope=true):xA X scope:=by
 unfold u0 at h
 rw[Bool.and_eq_true,all_eq_true] at h
 obtain⟨h1,h2⟩:=h
 refine⟨?_,fun y hy z=>?_,fun y hy z=>?_,fun y hy z=>?_⟩
 ·split at h1
  ·assumption
  ·cases h1
 ·have:=h2 y hy;rw[z] at this;cases this
 ·have:=h2 y hy;rw[z] at this
  simp only at this
  split at this
  ·assumption
  ·cases this
 ·have:=h2 y hy;rw[z] at this
  simp only at this
  split at this
  ·left;assumption
  ·right;assumption
  ·cases this
noncomputable def JI(Y:Cx)(ifs:List Expr)(f:FT):Prop:=PTs Y ifs (tTs Y f)
theorem jb{Y:Cx}:JI Y [] (fun _=>.ok true):=fun pins s σ H Q I z_=>by obtain⟨F,τ,R,h⟩:=z_;exact Qb pins s σ H Q I (h F H (Ext.refl R.fh))
theorem vG{Y:Cx}{c:Expr}{f:FT}(h:PDT Y c f):JI Y [c] f:=Qa h
section
variable{X:Cx}{scope:Scope}{tn fr:List Str}{idx:List Nat}{tg iter elt:Expr}{ifs:List Expr}{pos:Pos}{fi:FA}{set:FG}{ft:FT}{fe:FE}
structure CWH(K:Frag)(set:FG)(ft:FT)(fe:FE)(t0:DS)(ds xs:List D)(F1 H1:Hp)(acc:Addr)(i:Nat)(σ1:St)(Hc F2 Hm:Hp)(τ1:DS)(dn rs:List D)(vs:List V):Prop where
 a1:Ext F1 H1 F2 Hm
 a2:Hm acc=none
 a3:Hc=upd Hm acc (.lst vs)
 a4:Reps K F2 dn vs
 a5:RS K H1 F1 F2 τ1 σ1 Hc
 a6:wX τ1
 a7:∀d,set d τ1=set d t0
 a8:xq set ft fe t0 (ds.drop i)=.ok rs
 a9:xs=dn++rs
theorem VM(so:jI set){Y:Cx}(hK:Y.K=X.K)(σ:St)(H:Hp)(Q:VK)(h:tFr X (yY tn.length idx fi set ft fe) σ H Q):Yf (wT tn.length idx) (tI X fi) (tG Y set) (tTs Y ft) (tE Y fe) σ H Q:=by
 obtain⟨F,τ,R,h⟩:=h
 refine⟨F,τ,R,h.bind.imp fun ds gds J F1 H1 x io=>fun acc hacc=>?_⟩
 cases q:xq set ft fe (xv tn.length idx τ) ds with
 |no=>rw[q] at gds;exact gds.elim
 |ex c=>rw[q] at gds;exact gds.elim
 |ok xs=>
  rw[q] at gds
  obtain⟨hz,k⟩:=z6 gds
  have R1:=R.ext x
  have hF1:F1 acc=none:=zA x.fh hacc
  refine⟨fun i m σ1 Hc=>m=ds.length-i∧i≤ds.length∧∃F2 Hm τ1 dn rs vs,CWH X.K set ft fe (xv tn.length idx τ) ds xs F1 H1 acc i σ1 Hc F2 Hm τ1 dn rs vs,⟨ds.length,by simp,zero_le _,F1,H1,_,[],xs,[],Ext.refl x.fh,hacc,rfl,Reps.nil,?_,yS _ _ _,fun _=>rfl,q,rfl⟩,?_⟩
  ·exact(X8 tn.length idx R1).free_upd (yS _ _ _) hacc hF1 (.inl hacc)
  rintro i m σ1 Hc ⟨rfl,hi,F2,Hm,τ1,dn,rs,vs,x2,hm,rfl,r2,R2,n2,so2,cl,ex⟩
  obtain⟨i1,i2⟩:=io i F2 _ x2.ff R2.rv.fh
  by_cases hlt:i<ds.length
  ·have hd:ds.drop i=ds[i]::ds.drop (i+1):=drop_eq_getElem_cons hlt
   rw[hd,xq] at cl
   obtain⟨go,yl⟩:=i2 ds[i] (by simp[hlt])
   refine .inr ⟨go,fun y H' yy=>?_⟩
   obtain⟨F3,x3,r3⟩:=yl y H' yy
   refine⟨F3,τ1,ds[i],by rw[hK];exact(R2.ext x3).rv,by rw[hK];exact r3,?_⟩
   rw[so2]
   cases e1:set ds[i] (xv tn.length idx τ) with
   |no=>rw[e1] at cl;cases cl
   |ex c=>rw[e1] at cl;cases cl
   |ok τ2=>
    rw[e1] at cl
    simp only at cl
    intro σ2 _ RR _
    rw[hK] at RR
    have RR:=RR _ _ (R2.ext x3)
    have n3:=so.no _ _ _ e1 (yS _ _ _)
    have so3:∀d,set d τ2=set d (xv tn.length idx τ):=fun d=>so.ov d _ _ _ e1
    cases e2:ft τ2 with
    |no=>rw[e2] at cl;cases cl
    |ex c=>rw[e2] at cl;cases cl
    |ok b=>
     rw[e2] at cl
     refine⟨F3,τ2,by rw[hK];exact RR.rv,?_⟩
     rw[e2]
     intro F4 H4 x4
     have x34:=x3.trans x4
     cases b with
     |false=>
      simp only at cl
      rw[if_neg (by simp)]
      obtain⟨y1,y2⟩:=vV x2 hm x34
      have ha:H4 acc=some (.lst vs):=x34.hh acc _ zk
      have eH:H4=upd (y9 H4 acc) acc (.lst vs):=by
       rw[vt];funext b;unfold upd;split
       ·rename_i z;subst z;exact ha
       ·rfl
      refine⟨ds.length-(i+1),by lia,rfl,hlt,F4,y9 H4 acc,τ2,dn,rs,vs,y1,xU _ _,eH,r2.mono x34.ff,RR.ext x4,n3,so3,cl,ex⟩
     |true=>
      simp only at cl
      rw[if_pos rfl]
      cases e3:fe τ2 with
      |no=>rw[e3] at cl;cases cl
      |ex c=>rw[e3] at cl;cases cl
      |ok z=>
       rw[e3] at cl
       simp only at cl
       cases e4:xq set ft fe (xv tn.length idx τ) (ds.drop (i+1)) with
       |no=>rw[e4] at cl;cases cl
       |ex c=>rw[e4] at cl;cases cl
       |ok rs'=>
        rw[e4] at cl
        have ers:z::rs'=rs:=by simpa using cl
        refine⟨F4,τ2,by rw[hK];exact(RR.ext x4).rv,?_⟩
        rw[e3]
        intro v F5 H5 x5 r5
        rw[hK] at r5
        have x35:=x34.trans x5
        obtain⟨y1,y2⟩:=vV x2 hm x35
        refine⟨vs,x35.hh acc _ zk,?_,ds.length-(i+1),by lia,rfl,hlt,F5,y9 H5 acc,τ2,dn++[z],rs',vs++[v],y1,xU _ _,by rw[vt],(r2.mono x35.ff).append (Reps.cons r5 Reps.nil),?_,n3,so3,e4,?_⟩
        ·have:=congrArg List.length ex
         rw[← ers,length_append,length_cons,r2.length] at this
         lia
        ·exact((RR.ext x4).ext x5).free_upd n3 hacc y2 (.inr ⟨_,x35.hh acc _ zk⟩)
        ·rw[ex,← ers,append_assoc];rfl
  ·have e:i=ds.length:=by lia
   subst e
   rw[drop_length,xq] at cl
   cases cl
   rw[append_nil] at ex
   subst ex
   exact .inl ⟨i1 (le_refl _),k acc vs F2 Hm (x.trans x2) hm r2⟩
theorem ZB(hfr:FreeOk scope X.N fr idx)(σ:St)(i:Nat)(v:V)(h:(wT tn.length idx σ)[i]?=some (some v)):∃(x:Str) (j:Nat),(tn++fr)[i]?=some x∧X.N[j]?=some x∧σ[j]?=some (some v)∧scope.names.lookup x=some .free:=by
 unfold wT at h
 by_cases hi:i<tn.length
 ·rw[getElem?_append_left (by simpa using hi),getElem?_replicate] at h
  simp[hi] at h
 ·rw[getElem?_append_right (by simpa using hi),getElem?_map] at h
  simp only[List.length_replicate] at h
  cases q:idx[i-tn.length]? with
  |none=>rw[q] at h;cases h
  |some j=>
   rw[q] at h
   simp only[Option.map_some,Option.some.injEq] at h
   obtain⟨x,h1,h2,h3⟩:=hfr.get q
   refine⟨x,j,by rw[getElem?_append_right (by lia)];exact h1,h2,?_,h3⟩
   cases z:σ[j]? with
   |none=>rw[z] at h;cases h
   |some o=>rw[z] at h;simp at h;rw[h]
end
section
variable{prog:Program}{w:World}{A:Around}{E:Value→Shared→Prop}{s:Shared}{z TI TO i1 i2:Addr}{n1 n2:Nat}{P1 P2:Nat→Value→Prop}{st1 st2:Nat→Heap→Prop}{rd1 rd2:Heap→Prop}
end
theorem JL{X:Cx}{pins:List (Addr×Obj)}{σ:St}{H:Hp}{s:Shared}{h':Heap}{t':Nat}{ch:List Addr}{p:Addr}{xs:List V}{its:List Value}(I:Inv X pins σ H s)(k:∀b o,b∉ch→s.heap.get? b=some o→h'.get? b=some o)(hf:∀b∈ch,uw X pins H b)
  (hp:s.heap.objs.size≤p) (ht:IsTup h' p its.toArray) (hv:Vals xs its) (hz:xs.length≤sizeLine) :
  Inv X pins σ (upd H p (.tup xs)) { s with heap:=h',toks:=t' }:=by
 have hn:H p=none:=I.hok.fresh hp
 have lt:∀{b:Addr} {o:Obj},s.heap.get? b=some o→b≠p:=fun e=>ne_of_lt (lt_of_lt_of_le (Heap.lt_size e) hp)
 refine I.step (g':=s.gens) (d':=s.drawn) (ch:=ch) (fun b hb=>?_) (fun b o _ _ hc e _=>k b o hc e) (fun b o _ _ hc e _=>⟨o.slots,k b o hc e⟩) (fun b o _ e n=>by rw[zg (lt e)];exact n)
  (fun b o hc e=>⟨o,k b o hc e⟩) (fun b ys e=>by rw[zg (zt e hn)];exact e) (fun b o u e=>by rw[zg (zt e hn)];exact e) (fun b ps e=>⟨#[],by rw[zg (zt e hn),e];simp⟩) (fun m hm=>?_) (fun b u e=>?_) I.bare
 ·obtain⟨f0,f1,f2,f3,f4,f5⟩:=hf b hb
  exact⟨f3,f1,f4,f5⟩
 ·obtain⟨o,es,ep,ho,r⟩:=hm
  exact⟨o,es,ep,k _ o (fun z=>(hf _ z).2.1 rfl) ho,r⟩
 ·by_cases hb:b=p
  ·subst hb;rw[zk] at e;cases e
   exact⟨hz,its,hv,ht⟩
  ·rw[zg hb] at e
   refine(I.hok b u e).stay (fun c v hc q=>k c v ?_ q) (fun c q=>by rw[zg (zt q hn)];exact q) fun c ys q=>by rw[zg (zt q hn)];exact q
   intro z
   rcases hc with q|q
   ·subst q;rw[(hf c z).1] at e;cases e
   ·rw[(hf c z).1] at q;cases q
noncomputable def zo(c:Nat):D:=.str ⟨#[c]⟩
noncomputable def wg(x:Str):List D:=x.cps.toList.map zo
noncomputable def Its(x:Str):It:=⟨fun i _=>i<x.cps.size,fun i H y H'=>H'=H∧∃c,x.cps[i]?=some c∧y=.str ⟨#[c]⟩,fun i _=>x.cps.size≤i⟩
theorem VU{P:Program}{w:World}{K:Frag}{tg:Expr}{it:Addr}{x:Str}{t:Tok}{ty:String}(hty:ty = "str_ascii_iterator" ∨ ty = "str_iterator"):jS P w K tg (Its x) [it] it (fun k h=>h.IsStrIter it ty x t k) where
 mem:=by simp
 obj:=fun i h ⟨o,e,c,d⟩ b hb=>by
  have z:b=it:=by simpa using hb
  subst z
  exact⟨o,e,fun v z=>by rw[d] at z;cases z⟩
 keep:=fun i h h' ⟨o,e,r⟩ k=>⟨o,k it (by simp) o e,r⟩
 item:=by
  intro X hP hw hK hc i pins s σ H E I hf st hg
  subst hP hw hK
  obtain⟨f0,f1,f2,f3,f4,f5⟩:=hf it (by simp)
  have hh:X.A.handled=none:=I.ok.hd hc
  have W:Walks X.prog X.w X.A it [it] [it] x.cps.size (SignAt x) (fun i h=>h.IsStrIter it ty x t i):=by
   rcases hty with rfl|rfl
   ·exact Walks.strAscii hh it x t
   ·exact Walks.strWide hh it x t
  refine W.item i s _ _ hg st fun v h' tk hv st' kk=>?_
  obtain⟨c,u,ec,rfl⟩:=hv
  have I1:Inv X pins σ H { s with heap:=h',toks:=tk }:=I.turned (fun b o hb e=>kk b o (by simpa using hb) e) f0 f1 f3 f4 f5
  obtain⟨o,e,cc,d⟩:=id st'
  exact⟨_,rfl,YS (s:={ s with heap:=h',toks:=tk }) e cc d (by rcases hty with rfl|rfl <;> decide) ⟨.str ⟨#[c]⟩,H,I1,⟨u,rfl⟩,⟨rfl,c,ec,rfl⟩,st',fun b hb=>(hf b hb).1⟩⟩
 done:=by
  intro X hP hw hK hc i pins s σ H E I hf st hg
  subst hP hw hK
  obtain⟨f0,f1,f2,f3,f4,f5⟩:=hf it (by simp)
  have hh:X.A.handled=none:=I.ok.hd hc
  have hx:x.cps[i]?=none:=by have:x.cps.size≤i:=hg;simp;lia
  rcases hty with rfl|rfl
  ·exact wpAny_pyNext_ascii_end hh st hx fun h' eb=>⟨rfl,I.turned (t':=s.toks) (fun b o hb e=>eb b o hb e) f0 f1 f3 f4 f5⟩
  ·exact wpAny_pyNext_wide_end hh st hx fun h' eb=>⟨rfl,I.turned (t':=s.toks) (fun b o hb e=>eb b o hb e) f0 f1 f3 f4 f5⟩
 self:=fun _ _ _ _ _ st h=>by
  rcases hty with rfl|rfl
  ·exact wpAny_pyIter_striter_ascii st h
  ·exact wpAny_pyIter_striter_wide st h
section
variable{X:Cx}{pos:Pos}{e tg:Expr}{es:List Expr}{fe:FE}{fs:FA}
theorem M6{K:Frag}{F1:Hp}{x:Str}:XV K (Its x) F1 (wg x):=fun i F H f1 f2=>by
 have hl:(wg x).length=x.cps.size:=by simp[wg]
 refine⟨fun h=>by rw[hl] at h;exact h,fun d hd=>?_⟩
 have hi:i<x.cps.size:=by have:=(List.getElem?_eq_some_iff.mp hd).1;rw[hl] at this;exact this
 refine⟨hi,fun y H' yy=>?_⟩
 obtain⟨e1,c,ec,rfl⟩:=yy
 subst e1
 refine⟨F,Ext.refl f2,?_⟩
 have:d=zo c:=by
  simp only[wg,getElem?_map] at hd
  have e2:x.cps.toList[i]?=some c:=by simpa using ec
  rw[e2] at hd
  exact(Option.some.inj hd).symm
 subst this
 simp only[zo,Rep]
end
section
variable{X:Cx}{pos:Pos}{e tg:Expr}{es:List Expr}{fe:FE}{fs:FA}
noncomputable def len1:D→Rs D
 |.lst ds=>.ok (.int ds.length)
 |.tup ds=>.ok (.int ds.length)
 |.scr ns=>.ok (.int ns.length)
 |.str x=>if x.length≤sizeLine then .ok (.int x.length) else .no
 |_=>.no
noncomputable def wE:List D→Rs D
 |[d]=>len1 d
 |_=>.no
theorem uv:JJ X (.builtin "len") wE:=⟨_,call_len_seq.or Z8,fun F H vs ds Q fh r h=>by
 match ds,r,h with
 |[d],r,h=>
  obtain⟨v,rfl,q⟩:=r.one
  cases d with
  |lst ds=>
   simp only[Rep] at q;obtain⟨a,ws,rfl,e1,t⟩:=q
   refine .inl ⟨a,ws,rfl,.inl (SqL.of (fh _ _ e1)),?_⟩
   rw[← t.length];exact h _ F H (Ext.refl fh) (by simp only[Rep])
  |tup ds=>
   simp only[Rep] at q;obtain⟨a,ws,rfl,e1,t⟩:=q
   refine .inl ⟨a,ws,rfl,.inr (Same.seqT fh e1),?_⟩
   rw[← t.length];exact h _ F H (Ext.refl fh) (by simp only[Rep])
  |scr ns=>
   simp only[Rep] at q;obtain⟨a,rfl,e1⟩:=q
   refine .inl ⟨a,_,rfl,.inl (fh.seq e1),?_⟩
   rw[length_map];exact h _ F H (Ext.refl fh) (by simp only[Rep])
  |str x=>
   simp only[Rep] at q;subst q
   obtain⟨z,h⟩:=z6 h
   exact .inr ⟨x,rfl,z,h _ F H (Ext.refl fh) (by simp only[Rep])⟩
  |_=>exact h.elim
 |[],_,h=>exact h.elim
 |_::_::_,_,h=>exact(show False from h).elim⟩
noncomputable def Zc(ds:List D):Rs D:=match Jc ds with
 | some (i,j)=>.ok (.int (if j<i then j else i))
 |none=>.no
theorem Gv(hc:X.calm=true):JJ X (.builtin "min") Zc:=⟨_,VO hc,fun F H vs ds Q fh r h=>by
 unfold Zc at h
 cases q:Jc ds with
 |none=>rw[q] at h;exact h.elim
 |some ij=>
  obtain⟨i,j⟩:=ij
  rw[q] at h
  have e:=Q9 q
  subst e
  obtain⟨v,w,rfl,r1,r2⟩:=r.two
  simp only[Rep] at r1 r2;subst r1;subst r2
  exact⟨i,j,rfl,h _ F H (Ext.refl fh) (by simp only[Rep])⟩⟩
noncomputable def MtD(X:Cx)(id:String)(g:D→List D→Rs D):Prop:=∃r,MtR X id r∧∀F H v vs d ds Q,Same F H→Rep X.K F d v→Reps X.K F ds vs→Ok X (g d ds) (Ev X.K F H Q)→r v vs H Q
noncomputable def uJ(T:String):D→Bool
 |.str _=>T = "str"
 |.int _=>T = "int"
 |.lst _=>T = "list"
 |.scr _=>T = "list"
 |_=>false
noncomputable def xO(T:String)(g:D→List D→Rs D)(fo:FE):FE:=fun τ=>(fo τ).bind fun d=>if uJ T d=true then g d [] else .no
noncomputable def eMt(T:String)(g:D→List D→Rs D)(fo:FE)(fa:FA):FE:=fun τ=>(fo τ).bind fun d=>if uJ T d=true then (fa τ).bind fun ds=>g d ds else .no
theorem VS{F H:Hp}{d:D}{v:V}{T:String}(fh:Same F H)(r:Rep X.K F d v)(h:uJ T d=true):tyV X.K T v H:=by
 cases d with
 |str x=>simp only[Rep] at r;subst r;show T = "str"; simpa[uJ] using h
 |int x=>simp only[Rep] at r;subst r;show T = "int"; simpa[uJ] using h
 |lst ds=>simp only[Rep] at r;obtain⟨a,vs,rfl,e,t⟩:=r;exact .inl ⟨by simpa[uJ] using h,vs,SqL.of (fh _ _ e)⟩
 |scr ds=>simp only[Rep] at r;obtain⟨a,rfl,e⟩:=r;exact .inl ⟨by simpa[uJ] using h,_,fh.seq e⟩
 |_=>simp[uJ] at h
theorem GO{X:Cx}{α:Type}{c:Prop}[Decidable c]{r:Rs α}{P:α→Prop}(h:Ok X (if c then r else .no) P):c∧Ok X r P:=by
 by_cases z:c
 ·rw[if_pos z] at h;exact⟨z,h⟩
 ·rw[if_neg z] at h;exact h.elim
theorem Wl{T id:String}{name:Str}{o:Expr}{apos cpos:Pos}{fo:FE}{g:D→List D→Rs D}(pa:PlainAttrs T)(slot:Slot T name id)(hty:typeOf (.builtin id)=pure (.type "method_descriptor"))(hm:MtD X id g)(ho:PDE X o fo)
  (hbase:attributeBase o name X.env (eval o X.env)=eval o X.env:=by rfl) (hline:(apos.endLine==cpos.line)=true:=by rfl):PDE X (.Call (.Attribute o name apos) [] [] cpos) (xO T g fo):=by
 obtain⟨r,h1,h2⟩:=hm
 exact PE.imp (Mv pa slot hty h1 ho hbase hline) fun σ H Q z_=>by
  obtain⟨Fz,τ,R,h⟩:=z_
  refine tE.of R h.bind fun d v F1 H1 q x R1 rr=>?_
  obtain⟨z,q⟩:=GO q
  exact⟨VS R1.fh rr z,h2 F1 H1 v [] d [] Q R1.fh rr Reps.nil (q.imp fun d e=>e.ext x)⟩
theorem jd{T id:String}{name:Str}{o:Expr}{apos cpos:Pos}{fo:FE}{g:D→List D→Rs D}(pa:PlainAttrs T)(slot:Slot T name id)(hty:typeOf (.builtin id)=pure (.type "method_descriptor"))(hm:MtD X id g)(ho:PDE X o fo)(ha:PDA X (e::es) fs)
  (hbase:attributeBase o name X.env (eval o X.env)=eval o X.env:=by rfl)
  (hfew:((backTo cpos (starEach (e::es) X.env)).all (fun x=>!x.1)&&(backToKw cpos (keywordEach [] X.env)).all (fun x=>x.1.isSome)
   && decide ((e::es).length+([]:List Keyword).length+(if ([]:List Keyword).isEmpty then 0 else 1)<30))=true:=by rfl)
  (hline:(apos.endLine==cpos.line)=true:=by rfl) (hs:starEach (e::es) X.env=(false,eval e X.env)::starEach es X.env:=by rfl) (hplain:(backTo cpos (starEach es X.env)).any (·.1)=false:=by rfl) :
  PDE X (.Call (.Attribute o name apos) (e::es) [] cpos) (eMt T g fo fs):=by
 obtain⟨r,h1,h2⟩:=hm
 exact PE.imp (GM pa slot hty h1 ho ha hbase hfew hline hs hplain) fun σ H Q z_=>by
  obtain⟨Fz,τ,R,h⟩:=z_
  refine tE.of R h.bind fun d v F1 H1 q x R1 rr=>?_
  obtain⟨z,q⟩:=GO q
  exact⟨VS R1.fh rr z,tAs.of R1 q.bind fun ds vs F2 H2 q2 x2 R2 rs=>h2 F2 H2 v vs d ds Q R2.fh (rr.mono x2.ff) rs (q2.imp fun d e=>e.ext (x.trans x2))⟩
noncomputable def upD:D→List D→Rs D
 |.str x,[]=>if x.length≤5000000 then .ok (.str (Txt.upper x)) else .no
 |_,_=>.no
noncomputable def loD:D→List D→Rs D
 |.str x,[]=>if x.length≤5000000 then .ok (.str (Txt.lower x)) else .no
 |_,_=>.no
theorem mt_up:MtR X "str.upper" (fun v vs H Q=>∃x,v=.str x∧vs=[]∧x.length≤5000000∧Q (.str (Txt.upper x)) H):=by
 intro pins s σ H v vs u us Q I r rs h
 obtain⟨x,rfl,rfl,hx,q⟩:=h
 obtain⟨t,rfl⟩:=r
 cases rs
 exact SC.upper (fit_upper (by lia)) ⟨.str (Txt.upper x),H,I.tok _,⟨_,rfl⟩,q⟩
theorem mt_lo:MtR X "str.lower" (fun v vs H Q=>∃x,v=.str x∧vs=[]∧x.length≤5000000∧Q (.str (Txt.lower x)) H):=by
 intro pins s σ H v vs u us Q I r rs h
 obtain⟨x,rfl,rfl,hx,q⟩:=h
 obtain⟨t,rfl⟩:=r
 cases rs
 exact SC.lower (fit_lower (by lia)) ⟨.str (Txt.lower x),H,I.tok _,⟨_,rfl⟩,q⟩
theorem md_up:MtD X "str.upper" upD:=⟨_,mt_up,fun F H v vs d ds Q fh r rs h=>by
 cases d with
 |str x=>
  cases ds with
  |nil=>
   simp only[Rep] at r;subst r
   simp only[Reps] at rs;subst rs
   obtain⟨z,h⟩:=z6 h
   exact⟨x,rfl,rfl,z,h _ F H (Ext.refl fh) (by simp only[Rep])⟩
  |cons a b=>exact h.elim
 |_=>cases ds <;> exact h.elim⟩
theorem md_lo:MtD X "str.lower" loD:=⟨_,mt_lo,fun F H v vs d ds Q fh r rs h=>by
 cases d with
 |str x=>
  cases ds with
  |nil=>
   simp only[Rep] at r;subst r
   simp only[Reps] at rs;subst rs
   obtain⟨z,h⟩:=z6 h
   exact⟨x,rfl,rfl,z,h _ F H (Ext.refl fh) (by simp only[Rep])⟩
  |cons a b=>exact h.elim
 |_=>cases ds <;> exact h.elim⟩
theorem Ve{o:Expr}{apos cpos:Pos}{fo:FE}(ho:PDE X o fo)(hbase:attributeBase o "upper" X.env (eval o X.env)=eval o X.env:=by rfl)(hline:(apos.endLine==cpos.line)=true:=by rfl):PDE X (.Call (.Attribute o "upper" apos) [] [] cpos) (xO "str" upD fo):=
 Wl F.plainAttrs_str F.slot_str_upper F.type_str_upper md_up ho hbase hline
theorem xb{o:Expr}{apos cpos:Pos}{fo:FE}(ho:PDE X o fo)(hbase:attributeBase o "lower" X.env (eval o X.env)=eval o X.env:=by rfl)(hline:(apos.endLine==cpos.line)=true:=by rfl):PDE X (.Call (.Attribute o "lower" apos) [] [] cpos) (xO "str" loD fo):=
 Wl F.plainAttrs_str F.slot_str_lower F.type_str_lower md_lo ho hbase hline
noncomputable def xX:List D→Option (List Str)
 |[]=>some []
 |.str x::r=>(xX r).map (x :: ·)
 |_=>none
theorem j0{K:Frag}{F:Hp}:∀{ds:List D} {ys:List Str} {vs:List V} {us:List Value},xX ds=some ys→Reps K F ds vs→Vals vs us→StrsAre us ys
 |[],ys,vs,us,h,r,rv=>by
  simp only[Reps] at r;subst r;cases rv;cases h;exact .nil
 |.str x::ds,ys,vs,us,h,r,rv=>by
  simp only[Reps,Rep] at r
  obtain⟨v,r',rfl,rfl,t⟩:=r
  simp only[xX] at h
  cases q:xX ds with
  |none=>rw[q] at h;cases h
  |some zs=>
   rw[q] at h;cases h
   cases rv with
   |cons r1 r2=>
    obtain⟨tk,rfl⟩:=r1
    exact .cons x tk (j0 q t r2)
 |.non::_,_,_,_,h,_,_=>by cases h
 |.bl _::_,_,_,_,h,_,_=>by cases h
 |.int _::_,_,_,_,h,_,_=>by cases h
 |.lst _::_,_,_,_,h,_,_=>by cases h
 |.tup _::_,_,_,_,h,_,_=>by cases h
 |.scr _::_,_,_,_,h,_,_=>by cases h
 |.raw _::_,_,_,_,h,_,_=>by cases h
 |.exc _::_,_,_,_,h,_,_=>by cases h
 |.dct _ _::_,_,_,_,h,_,_=>by cases h
noncomputable def jt:D→List D→Rs D
 |.str x,[.lst ds]=>match xX ds with
  |some ys=>if (ys.map (·.length)).sum+ys.length*x.length≤16777216 then .ok (.str (Txt.join x ys)) else .no
  |none=>.no
 |_,_=>.no
theorem QK:MtR X "str.join" (fun v vs H Q=>∃x a ws F ds ys,v=.str x∧vs=[.ref a]∧H a=some (.lst ws)∧Reps X.K F ds ws∧xX ds=some ys∧(ys.map (·.length)).sum+ys.length*x.length≤16777216∧Q (.str (Txt.join x ys)) H):=by
 intro pins s σ H v vs u us Q I r rs h
 obtain⟨x,a,ws,F,ds,ys,rfl,rfl,e,t,hs,hz,q⟩:=h
 obtain⟨tk,rfl⟩:=r
 obtain⟨u',rfl,ru⟩:=rs.one
 cases ru
 obtain⟨its,rr,p,_⟩:=I.list (SqL.of (K:=X.K) e)
 exact join_list p.isList (by simpa using j0 hs t rr) hz fun t' k=>⟨.str (Txt.join x ys),H,I.tok _,⟨_,rfl⟩,q⟩
theorem QP:MtD X "str.join" jt:=⟨_,QK,fun F H v vs d ds Q fh r rs h=>by
 cases d with
 |str x=>
  cases ds with
  |nil=>exact h.elim
  |cons a b=>
   cases b with
   |cons c d=>cases a <;> exact h.elim
   |nil=>
    cases a with
    |lst ds=>
     simp only[Rep] at r;subst r
     obtain⟨w,rfl,rw'⟩:=rs.one
     simp only[Rep] at rw'
     obtain⟨a,ws,rfl,e,t⟩:=rw'
     simp only[jt] at h
     cases q:xX ds with
     |none=>rw[q] at h;exact h.elim
     |some ys=>
      rw[q] at h
      obtain⟨z,h⟩:=z6 h
      exact⟨x,a,ws,F,ds,ys,rfl,rfl,fh _ _ e,t,q,z,h _ F H (Ext.refl fh) (by simp only[Rep])⟩
    |_=>exact h.elim
 |_=>exact(by
   revert h
   cases ds with
   |nil=>exact fun h=>h.elim
   |cons a b=>cases b with
    |nil=>cases a <;> exact fun h=>h.elim
    |cons c d=>cases a <;> exact fun h=>h.elim)⟩
end
section
variable{X:Cx}{pos:Pos}{e tg:Expr}{es:List Expr}{fe:FE}{fs:FA}
end
section
variable{X:Cx}{pos:Pos}{e tg:Expr}{es:List Expr}{fe:FE}{fs:FA}
noncomputable def rSlS:V→Option Int→Option Int→Hp→VK→Prop:=fun x lo hi H Q=>∃z,x=.str z∧z.length≤sizeLine∧Q (.str (Txt.slice z lo hi)) H
theorem sl_str:SlR X rSlS:=by
 intro pins s σ H x v vl vu lo hi sl Q I rx hs pl pu h
 obtain⟨z,rfl,hz,q⟩:=h
 obtain⟨t,rfl⟩:=rx
 refine⟨"str", _,F.slot_str_getitem.lookup,typeIs_str _ _ _,?_⟩
 obtain⟨o,e,c,d⟩:=hs
 have fin:∀t' k,EP X pins σ Q (.str (Txt.slice z lo hi) t') { s with toks:=k }:=fun t' k=>⟨.str _,H,I.tok _,⟨_,rfl⟩,q⟩
 have hl:=le_trans (Txt.slice_le z lo hi) hz
 cases pl with
 |none=>
  cases pu with
  |none=>exact wpAny_getItem_str_slice (l:=none) (u:=none) (st:=none) ⟨o,e,c,d⟩ rfl (post_val_or_str ⟨hl,fin⟩)
  |int j uj=>exact wpAny_getItem_str_slice (l:=none) (u:=some (j,uj)) (st:=none) ⟨o,e,c,d⟩ rfl (post_val_or_str ⟨hl,fin⟩)
 |int i ui=>
  cases pu with
  |none=>exact wpAny_getItem_str_slice (l:=some (i,ui)) (u:=none) (st:=none) ⟨o,e,c,d⟩ rfl (post_val_or_str ⟨hl,fin⟩)
  |int j uj=>exact wpAny_getItem_str_slice (l:=some (i,ui)) (u:=some (j,uj)) (st:=none) ⟨o,e,c,d⟩ rfl (post_val_or_str ⟨hl,fin⟩)
noncomputable def cutD(xs:List D)(lo hi:Option Int):List D:=(xs.drop (HT.sIx xs.length 0 lo)).take (HT.sIx xs.length xs.length hi-HT.sIx xs.length 0 lo)
noncomputable def slD(d:D)(lo hi:Option Int):Rs D:=match d with
 |.str x=>if x.length≤sizeLine then .ok (.str (Txt.slice x lo hi)) else .no
 |.lst ds=>.ok (.lst (cutD ds lo hi))
 |_=>.no
noncomputable abbrev FO:=DS→Rs (Option Int)
noncomputable def Zb(fe:FE):FO:=fun τ=>(fe τ).bind fun d=>match d with
 |.int i=>.ok (some i)
 |_=>.no
noncomputable def tOs(X:Cx)(f:FO):TO:=fun σ H Q=>∃F τ,RV X.K F τ σ H∧Ok X (f τ) fun o=>∀F' H',Ext F H F' H'→Q o H'
noncomputable def PDO(X:Cx)(e:Option Expr)(f:FO):Prop:=PO X e (tOs X f)
theorem PO.imp{e:Option Expr}{t t':TO}(h:PO X e t)(f:∀σ H Q,t' σ H Q→t σ H Q):PO X e t':=fun pins s σ H Q I q=>h pins s σ H Q I (f _ _ _ q)
theorem Yz(h:PDE X e fe):PDO X (some e) (Zb fe):=PO.imp (Qg h) fun σ H Q z_=>by
 obtain⟨F,τ,R,h⟩:=z_
 refine tE.of R h.bind fun d v F1 H1 g x R1 r=>?_
 cases d with
 |int i=>simp only[Rep] at r;exact⟨i,r,g F1 H1 x⟩
 |_=>exact g.elim
noncomputable def eSl(fe:FE)(fl fh:FO):FE:=fun τ=>(fe τ).bind fun d=>(fl τ).bind fun l=>(fh τ).bind fun u=>slD d l u
theorem Mx{lo hi:Option Expr}{fl fh:FO}{p2:Pos}(he:PDE X e fe)(hl:PDO X lo fl)(hu:PDO X hi fh):PDE X (.Subscript e (.Slice lo hi none p2) pos) (eSl fe fl fh):=
 PE.imp (Uo (sl_str.or JU) he hl hu) fun σ H Q z_=>by
  obtain⟨F,τ,R,h⟩:=z_
  refine tE.of R h.bind fun d v F1 H1 g x R1 r=>?_
  refine⟨F1,τ,R1,g.bind.imp fun l gl F2 H2 x2=>⟨F2,τ,R1.ext x2,gl.bind.imp fun u gu F3 H3 x3=>?_⟩⟩
  have f3:=x3.fh
  have x13:=x.trans (x2.trans x3)
  cases d with
  |str z=>
   simp only[Rep] at r
   obtain⟨zz,gu⟩:=z6 gu
   exact .inl ⟨z,r,zz,gu _ F3 H3 x13 (by simp only[Rep])⟩
  |lst ds=>
   simp only[Rep] at r;obtain⟨a,vs,rfl,e1,t⟩:=r
   have gu:Ev X.K F H Q (.lst (cutD ds l u)):=gu
   refine .inr ⟨a,vs,rfl,SqL.of (f3 _ _ (x3.ff _ _ (x2.ff _ _ e1))),fun p hp=>gu _ _ _ (x13.trans (Ext.new f3 hp)) ?_⟩
   simp only[Rep]
   refine⟨p,_,rfl,zk,?_⟩
   have t3:Reps X.K F3 (cutD ds l u) (VJ vs l u):=by
    unfold cutD VJ
    rw[← t.length]
    exact((t.mono (x2.ff.trans x3.ff)).drop _).take _
   exact t3.mono (zS (zA f3 hp))
  |_=>exact gu.elim
theorem Mz{x:Str}{v:V}{u:Value}{d:D}(hg:Gl X x)(hm:X.mg x=some u)(r:RelV v u)(rd:∀F,Rep X.K F d v)(hd:(x==("__debug__" : Str))=false:=by decide):PDE X (.Name x pos) (eC d):=Wn (Qk hg hm r hd) rd
theorem Wm{x:Str}{y:Str}{t:Tok}(hg:Gl X x)(hm:X.mg x=some (.str y t))(hd:(x==("__debug__" : Str))=false:=by decide):PDE X (.Name x pos) (eC (.str y)):=Mz (v:=.str y) hg hm ⟨t,rfl⟩ (fun _=>by simp only[Rep]) hd
end
section
variable{X:Cx}{pos:Pos}{e tg:Expr}{es:List Expr}{fe:FE}{fs:FA}
noncomputable def iAnyT(K:Frag)(tl:TE):TI:=fun σ H R=>tl σ H fun x H1=>(∃a,x=.ref a∧(∃xs,SqL K H1 a xs)∧R (Itl K a) H1)∨(∃a,x=.ref a∧(∃xs,SqT K H1 a xs)∧R (Itt K a) H1)∨∃z,x=.str z∧R (Its z) H1
theorem Ml{l:Expr}{tl:TE}(hl:PE X l tl):PI X tg l (iAnyT X.K tl):=by
 intro pins s σ H R I h
 refine thn (hl pins s σ H _ I h) fun v s1 z_=>?_
 obtain⟨x,H1,I1,r1,q1⟩:=z_
 rcases q1 with ⟨a,e,⟨xs,hq⟩,q⟩|⟨a,e,⟨xs,hq⟩,q⟩|⟨z,e,q⟩
 ·subst e
  cases r1
  obtain⟨its,rv,p,hz⟩:=I1.list hq
  refine wpAny_pyIter_list p.isList ?_
  refine⟨s1.heap.objs.size,[s1.heap.objs.size],_,_,H1,rfl,I1.kept (t':=s1.toks) fun b o e=>get?_push_of_some _ e,jY a _,⟨_,Heap.get?_push_size _ rfl,rfl,rfl⟩,fun b hb=>?_,q⟩
  have e:b=s1.heap.objs.size:=by simpa using hb
  subst e
  exact I1.fpOk (le_refl _) (I1.hok.fresh (le_refl _))
 ·subst e
  cases r1
  obtain⟨its,rv,p,hz⟩:=I1.tuple hq
  refine wpAny_pyIter_tuple (show s1.heap.IsTuple a its.toArray from p) ?_
  refine⟨s1.heap.objs.size,[s1.heap.objs.size],_,_,H1,rfl,I1.kept (t':=s1.toks) fun b o e=>get?_push_of_some _ e,Xc a _,⟨_,Heap.get?_push_size _ rfl,rfl,rfl⟩,fun b hb=>?_,q⟩
  have e:b=s1.heap.objs.size:=by simpa using hb
  subst e
  exact I1.fpOk (le_refl _) (I1.hok.fresh (le_refl _))
 ·subst e
  obtain⟨t,rfl⟩:=r1
  have fin:∀(ty:String),(ty = "str_ascii_iterator" ∨ ty = "str_iterator")→PIE X pins σ tg R (.ref s1.heap.objs.size) { s1 with heap:=s1.heap.push { cls:=.type ty,data:=.fields #[.str z t,.int 0 0] } }:=fun ty hty=>by
   refine⟨s1.heap.objs.size,[s1.heap.objs.size],_,_,H1,rfl,I1.kept (t':=s1.toks) fun b o e=>get?_push_of_some _ e,VU hty,⟨_,Heap.get?_push_size _ rfl,rfl,rfl⟩,fun b hb=>?_,q⟩
   have e:b=s1.heap.objs.size:=by simpa using hb
   subst e
   exact I1.fpOk (le_refl _) (I1.hok.fresh (le_refl _))
  cases ha:z.cps.all (· < 128)
  ·exact wpAny_pyIter_wide ha (fin _ (.inr rfl))
  ·exact wpAny_pyIter_ascii ha (fin _ (.inl rfl))
noncomputable def GW:D→Rs (List D)
 |.lst ds=>.ok ds
 |.scr ns=>.ok (ns.map .int)
 |.tup ds=>.ok ds
 |.str x=>.ok (wg x)
 |_=>.no
noncomputable def xl(fe:FE):FA:=fun τ=>(fe τ).bind GW
theorem wl(he:PDE X e fe):PDI X tg e (xl fe):=
 PI.imp (Ml he) fun σ H R z_=>by
  obtain⟨F,τ,Rv,h⟩:=z_
  refine tE.of Rv h.bind fun d v F1 H1 g x R1 r=>?_
  cases d with
  |lst ds=>
   simp only[Rep] at r;obtain⟨a,vs,rfl,q,t⟩:=r
   exact .inl ⟨a,rfl,⟨vs,SqL.of (R1.fh _ _ q)⟩,g _ F1 H1 x (WH (SqL.of q) t)⟩
  |scr ns=>
   simp only[Rep] at r;obtain⟨a,rfl,q⟩:=r
   exact .inl ⟨a,rfl,⟨_,R1.fh.seq q⟩,g _ F1 H1 x (WH q (Reps.ints ns))⟩
  |tup ds=>
   simp only[Rep] at r;obtain⟨a,vs,rfl,q,t⟩:=r
   exact .inr (.inl ⟨a,rfl,⟨vs,Same.seqT R1.fh q⟩,g _ F1 H1 x (M5 q t)⟩)
  |str z=>simp only[Rep] at r;exact .inr (.inr ⟨z,r,g _ F1 H1 x M6⟩)
  |_=>exact g.elim
end
noncomputable def DefOk(P:Program)(w:World)(K:Frag)(mg:Str→Option Value)(base:Heap)(x:Str)(k n:Nat)(ps:List Str)(g:List D→Rs D):Prop:=
 ∃f fd,FnOk P w K mg base CX0 k f fd ps (spD K n g)∧Binds K fd ps []∧keepIn K (.ref f)=true∧mg x=some (.ref f)
structure yO(K:Frag)(mg:Str→Option Value)(x:Str)(st:Stmt)(f:Addr)(fd:FuncData):Prop where
 fn:Fun K x x st f fd
 at_:mg x=some (.ref f)
section
variable{P:Program}{w:World}{K:Frag}{mg:Str→Option Value}{base:Heap}
theorem DefOk.mk{x:Str}{st:Stmt}{f:Addr}{fd:FuncData}{N ps:List Str}{k n:Nat}{fb:FS}{g:List D→Rs D}(D:yO K mg x st f fd)(S:zL N ps (zi st))(hn:ps.length=n)
  (hb:∀(kV doc pm:Value) (an:Option Addr) (cdv ct:Value) (us:List Value),us.length=ps.length→bindArgs (fnOf x x (zO st) (zC st) (zi st) .none kV doc pm an cdv ct) ⟨us,[]⟩=pure (ps.zip us))
  (hbody:∀(cdv:Value) (A:Around) (outer:List Env) (s:Shared) (H:Hp) (E:XK),Room k (A.deeper (envOfC x (zi st) s.heap.objs.size f cdv)) →
   wy (ut CX0 P w K mg base N x (zi st) f cdv A outer s H E).nox (zC st) fb)
  (hg:∀ds d,ds.length=n→g ds=.ok d→wU N.length fb ds=.ok d):DefOk P w K mg base x (k+1) n ps g:=
 ⟨f,fd,FnD.to (fnD D.fn S hn hbody) hg,D.fn.binds hb,D.fn.kp,D.at_⟩
end
section
variable{X:Cx}{pos:Pos}{e tg:Expr}{es:List Expr}{fe:FE}{fs:FA}
theorem zN{k n:Nat}{ps:List Str}{g:List D→Rs D}{x:Str}{p:Pos}(D:DefOk X.prog X.w X.K X.mg X.base x k n ps g)(hr:Room k X.A)(ha:PDA X (e::es) fs)(hfs:∀τ ds,fs τ=.ok ds→ds.length=(e::es).length)(hn:(e::es).length=n:=by rfl)(hg:Gl X x:=by rfl)(hdb:(x==("__debug__" : Str))=false:=by decide)
  (he:starEach (e::es) X.env=(false,eval e X.env)::starEach es X.env:=by rfl) (hpl:(backTo pos (starEach es X.env)).any (·.1)=false:=by rfl):PDE X (.Call (.Name x p) (e::es) [] pos) (zx g fs):=by
 obtain⟨f,fd,F,hb,hk,hm⟩:=D
 exact UD F hr hg hm hk hb ha hn hfs hdb he hpl
end
theorem uN{k:Nat}{A:Around}(r:Room k A):A.units+128<cLine:=by have:=r.un;lia
section
variable{X:Cx}{pos:Pos}{e a b:Expr}{fe fa fb:FE}
end
noncomputable def X3(K:Frag):Sp:=fun vs H Q _=>∃(a:Addr) (ns:List Int) (F:Hp),vs=[.ref a]∧Same F H∧TbT F H∧SqL K F a (ns.map V.int)∧ns.length≤63∧∀H',Q (.bl true) H'
theorem MW{P:Program}{w:World}{K:Frag}{mg:Str→Option Value}{base:Heap}{k:Nat}{g:List D→Rs D}{p:Str}{f:Addr}{fd:FuncData}(F:FnOk P w K mg base CX0 k f fd [p] (spD K 1 g))(h:∀ns:List Int,ns.length≤63→g [.scr ns]=.ok (.bl true)) :
  FnOk P w K mg base CX0 k f fd [p] (X3 K):=by
 refine F.imp fun vs H Q E z_=>?_
 obtain⟨a,ns,Fz,e,fh,tt,hS,h63,q⟩:=z_
 subst e
 refine⟨rfl,[.scr ns],Fz,fh,tt,Reps.cons (by simp only[Rep];exact⟨a,rfl,hS⟩) Reps.nil,?_⟩
 rw[h ns h63]
 intro v F' H' _ r
 simp only[Rep] at r
 subst r
 exact q H'
theorem walk{l:PySem.W.OpenLaw}{q:Program}{loose:List Str}{XP:(Str→Option Value)→Heap→Prop}{YP:World→Heap→Prop}{d:DefRec}{K:Params→Frag}{k:Nat}{p:Str}(hn:l.most=some 63)(hdf:d.params.defaults=[])(hk:Room k callerA)
  (hY:∀(w:World) (h:Heap),YP w h→(K w.params).In h)
  (F:∀(w:World) (mg:Str→Option Value) (fa:Addr) (h:Heap),(K w.params).In h→h.Ns mainGlobals mg→mg d.name=some (.ref fa) →
   ∃fd:FuncData,(∀(s:Shared) (u:Value),BindsTo s fd ⟨[u],[]⟩ [(p,u)])∧∀base:Heap,(K w.params).In base→base.Ns mainGlobals mg→FnOk l.prog w (K w.params) mg base CX0 k fa fd [p] (X3 (K w.params)))
  (ht:Tabs.rows=[]:=by rfl) :
  PySem.W.WalkO q loose XP YP l.row.toRowW d [] (fun f vs=>PySem.call f vs):=
 L2.walk_of (n:=63) (k:=k) (x:=p) (CX:=fun _=>CX0) (sp:=fun w=>X3 (K w.params)) hn (by decide) hdf hk hY F (fun _ H a ns hl hO hS=>⟨a,ns,H,rfl,Same.refl H,⟨(fun r hr=>by rw[ht] at hr;cases hr),fun d b e=>by rcases hO d with z|⟨_,_,z⟩ <;> (rw[z] at e;cases e)⟩,hS,hl,fun _=>rfl⟩) fun _ _ _ _ _ z=>z
section
variable{X:Cx}{pos:Pos}{e tg:Expr}{es:List Expr}{fe:FE}{fs:FA}
theorem J4(x:Str)(u:Tok):Txt.sliceBy x none none (-1,u)=⟨x.cps.toList.reverse.toArray⟩:=by
 have h:=step_rev_list x u
 have e:((List.range x.length).map fun k=>x.cps.getD (x.length-1-k) 0)=x.cps.toList.reverse:=by
  have hl:x.length=x.cps.toList.length:=by simp[Str.length]
  apply ext_getElem
  ·simp[hl]
  ·intro i h1 h2
   have hi:i<x.cps.size:=by simpa[Str.length] using h1
   simp only[List.getElem_map,List.getElem_range,List.getElem_reverse]
   rw[hl]
   simp only[length_toList,getElem_toList,Array.getD]
   rw[dif_pos (by lia)]
   rfl
 rw[e] at h
 generalize Txt.sliceBy x none none (-1,u)=y at h
 obtain⟨c⟩:=y
 congr 1
 rw[← h]
end
section
open PySem.SeqAt
open PySem.AutoSeq1 (wpAny_loadPart')
open PySem.MeetsSeq PySem.MeetsSeq2 PySem.MeetsSeq3
end
section
variable{X:Cx}
end
section
variable{X:Cx}
noncomputable def X1:D→List D→Option (Str×Str)
 |.str x,[.str y]=>some (x,y)
 |_,_=>none
theorem V2{d:D}{ds:List D}{x y:Str}(h:X1 d ds=some (x,y)):d=.str x∧ds=[.str y]:=by
 unfold X1 at h;split at h <;> cases h;exact⟨rfl,rfl⟩
end
section
variable{rest:List Expr}{env:Env}
theorem Yi{a b c}:starEach (.Constant a b c::rest) env=(false,eval (.Constant a b c) env)::starEach rest env:=rfl
end
noncomputable def Itn(K:Frag)(l:Addr):It:=
 ⟨fun k H=>∃vs,SqL K H l vs∧k<vs.length,
  fun k H y H'=>∃p v,H p=none∧(∀vs,SqL K H l vs→vs[k]?=some v)∧y=.ref p∧H'=upd H p (.tup [.int k,v]),
  fun k H=>∃vs,SqL K H l vs∧vs.length≤k⟩
theorem WX{P:Program}{w:World}{K:Frag}{elts:List Expr}{x1}{pos:Pos}{e it l:Addr}(D:e≠it) :
  jS P w K (.Tuple elts x1 pos) (Itn K l) [e,it] e (fun k h=>(∃old,IsEnum h e it (k:Nat) old)∧h.IsListIter it l k) where
 mem:=by simp
 obj:=fun k h ⟨⟨old,h1⟩,⟨o5,e5,c5,d5⟩⟩ b hb=>by
  simp at hb
  rcases hb with rfl|rfl
  ·exact⟨_,h1,fun v z=>by cases z⟩
  ·exact⟨_,e5,fun v z=>by rw[d5] at z;cases z⟩
 keep:=fun k h h' ⟨⟨old,h1⟩,h5⟩ hk=>⟨⟨old,hk e (by simp) _ h1⟩,h5.at fun o q=>hk it (by simp) o q⟩
 item:=by
  rintro X hP hw hK hc k pins s σ H E I hf ⟨⟨old,h1⟩,h5⟩ hg
  subst hP hw hK
  obtain⟨vs,hq,l2⟩:=hg
  obtain⟨its,rv,p,hz⟩:=I.list hq
  have hlen:=rv.length
  have hvk:vs[k]?=some vs[k]:=by simp[l2]
  obtain⟨u2,eu,ru⟩:=rv.get hvk
  refine wpAny_pyNext_enum_item (x:=u2) h1 h5 p.isList (by simpa using eu) D fun h' q1 q2 q3 q4 q5=>?_
  have np:s.heap.objs.size≠e:=ne_of_gt (Heap.lt_size h1)
  refine⟨_,rfl,wpAny_letOwnedTupleGo_enum (s:={ s with heap:=h',toks:=s.toks+1 }) q1 fun h'' z1 sb=>?_⟩
  refine⟨.ref s.heap.objs.size,upd H s.heap.objs.size (.tup [.int k,vs[k]]),?_,rfl,⟨_,vs[k],I.hok.fresh (le_refl _),fun ws hw=>by rw[I.list_inj hw hq];exact hvk,rfl,rfl⟩,⟨⟨_,by simpa using z1⟩,?_⟩,fun b hb=>?_⟩
  ·refine(JL (s:=s) (h':=h'') (t':=s.toks+1) (xs:=[.int k,vs[k]]) (ch:=[e,it]) I (fun b o hb q=>?_) hf (le_refl _) ⟨_,sb.extBut _ _ np q3,rfl,_,rfl⟩ (.cons ⟨_,rfl⟩ (.cons ru .nil)) (by show 2≤sizeLine;decide):Inv X pins σ _ { s with heap:=h'',toks:=s.toks+1 })
   simp at hb
   exact sb.extBut _ _ hb.1 (q5 b o hb.1 hb.2 q)
  ·obtain⟨o,q,r⟩:=q2
   exact⟨o,sb.extBut _ _ (Ne.symm D) q,r⟩
  ·have lt:b<s.heap.objs.size:=by
    simp at hb
    rcases hb with rfl|rfl
    ·exact Heap.lt_size h1
    ·obtain⟨o,q,r⟩:=h5
     exact Heap.lt_size q
   rw[zg (ne_of_lt lt)]
   exact(hf b hb).1
 done:=by
  rintro X hP hw hK hc k pins s σ H E I hf ⟨⟨old,h1⟩,h5⟩ hg
  subst hP hw hK
  obtain⟨vs,hq,hend⟩:=hg
  obtain⟨its,rv,p,hz⟩:=I.list hq
  have hlen:=rv.length
  obtain⟨f0,f1,f2,f3,f4,f5⟩:=hf it (by simp)
  exact wpAny_pyNext_enum_end (I.ok.hd hc) h1 h5 p.isList (by simp;lia) fun h' eb=>⟨rfl,I.turned (t':=s.toks) (fun b o hb q=>eb b o hb q) f0 f1 f3 f4 f5⟩
 self:=fun _ _ _ _ _ ⟨⟨_,h1⟩,_⟩ h=>wpAny_pyIter_enum h1 h
section
variable{X:Cx}{pos:Pos}{e a b:Expr}{es:List Expr}{fe fa fb:FE}{fs:FA}
noncomputable def Ta(K:Frag)(ta:TA):TI:=fun σ H R=>ta σ H fun vs H1=>∃l ws,vs=[.ref l]∧SqL K H1 l ws∧R (Itn K l) H1
theorem Wg{ta:TA}{p:Pos}{elts:List Expr}{x1}{tpos:Pos}(hg:Gl X "enumerate")(hm:X.mg "enumerate" = none)(ha:PA X [a] ta)(hs:starEach [a] X.env=[(false,eval a X.env)]:=by rfl) :
  PI X (.Tuple elts x1 tpos) (.Call (.Name "enumerate" p) [a] [] pos) (Ta X.K ta):=by
 intro pins s σ H R I h
 refine Call_ (uk I hg hm boot_enumerate (PyProof.Rows.callWith_type1 (thn (ha pos pins s σ H _ I h) fun us s1 z_=>?_) (by rw[hs];rfl) rfl))
 obtain⟨vs,H1,I1,r1,q1⟩:=z_
 obtain⟨l,ws,e,hq,q⟩:=q1
 subst e
 obtain⟨u1,rfl,ru⟩:=vals1 r1
 cases ru
 obtain⟨its,rr,pp,hz⟩:=I1.list hq
 refine call_enumerate_list pp.isList fun h' g1 g2 g3 g4=>?_
 have I5:Inv X pins σ H1 { s1 with heap:=h' }:=I1.kept (t':=s1.toks) g4
 refine wpAny_pyIter_enum (s:={ s1 with heap:=h' }) g1 ?_
 refine⟨s1.heap.objs.size+1,[s1.heap.objs.size+1,s1.heap.objs.size],_,_,H1,rfl,I5,WX (l:=l) (by show(_:Nat)≠_;lia),⟨⟨_,g1⟩,g2⟩,fun b hb=>?_,q⟩
 have hb':s1.heap.objs.size≤b:=by
  simp at hb
  rcases hb with rfl|rfl <;> (show s1.heap.objs.size≤(_:Nat);lia)
 obtain⟨f0,f1,f2,f3,f4,f5⟩:=I1.fpOk (H':=H1) hb' (I1.hok.fresh hb')
 exact⟨f0,f1,f2,f3,f4,f5⟩
noncomputable def yc(n:Nat):List D→List D
 |[]=>[]
 |d::r=>.tup [.int n,d]::yc (n+1) r
theorem wo:∀(ds:List D) (n:Nat),(yc n ds).length=ds.length:=by
 intro l_
 induction l_ with
 |nil=>
  rintro _
  exact rfl
 |cons _ r ih_=>
  rintro n
  simp[yc,ih_]
theorem wq:∀{ds:List D} {n i:Nat} {p:D},(yc n ds)[i]?=some p→∃d,ds[i]?=some d∧p=.tup [.int ((n+i:Nat):Int),d]
 |[],_,_,_,h=>by simp[yc] at h
 |d::ds,n,0,p,h=>by simp[yc] at h;exact⟨d,rfl,by simpa using h.symm⟩
 |d::ds,n,i+1,p,h=>by
  obtain⟨d',h2,h3⟩:=wq (n:=n+1) (i:=i) (by simpa[yc] using h)
  exact⟨d',by simpa using h2,by rw[h3];congr 3;show((n+1+i:Nat):Int)=_;congr 1;lia⟩
theorem Q5{K:Frag}{F1:Hp}{l:Addr}{ds:List D}{vs:List V}(e:SqL K F1 l vs)(r:Reps K F1 ds vs):XV K (Itn K l) F1 (yc 0 ds):=fun i F H f1 f2=>by
 have q:SqL K H l vs:=(f1.trans f2).seq e
 have hl:=wo ds 0
 have hr:=r.length
 refine⟨fun h=>⟨vs,q,by lia⟩,fun p hp=>?_⟩
 obtain⟨d,h2,rfl⟩:=wq hp
 have l2:i<vs.length:=by have:=(List.getElem?_eq_some_iff.mp h2).1;lia
 refine⟨⟨vs,q,l2⟩,fun y H' yy=>?_⟩
 obtain⟨pa,v,hp,q',rfl,rfl⟩:=yy
 refine⟨upd F pa (.tup [.int i,v]),Ext.new f2 hp,?_⟩
 simp only[Rep]
 refine⟨pa,_,rfl,SqT.of zk,Reps.cons (by simp only[Rep,zero_add]) (Reps.cons ?_ Reps.nil)⟩
 obtain⟨v',hv',rv'⟩:=r.get h2
 have e3:=q' vs q
 rw[hv'] at e3;cases e3
 exact(rv'.mono f1).mono (zS (zA f2 hp))
noncomputable def QV:List D→Option (List D)
 |[.lst ds]=>some ds
 |_=>none
theorem QU{ds xs:List D}(h:QV ds=some xs):ds=[.lst xs]:=by
 unfold QV at h;split at h <;> cases h;rfl
noncomputable def iEn(fs:FA):FA:=fun τ=>(fs τ).bind fun ds=>match QV ds with
 |some xs=>.ok (yc 0 xs)
 |none=>.no
theorem YA{p:Pos}{elts:List Expr}{x1}{tpos:Pos}(hg:Gl X "enumerate")(hm:X.mg "enumerate" = none)(ha:PDA X [a] fs)(hs:starEach [a] X.env=[(false,eval a X.env)]:=by rfl) :
  PDI X (.Tuple elts x1 tpos) (.Call (.Name "enumerate" p) [a] [] pos) (iEn fs):=
 PI.imp (Wg hg hm ha hs) fun σ H R z_=>by
  obtain⟨F,τ,Rv,h⟩:=z_
  refine tAs.of Rv h.bind fun ds vs F1 H1 g x R1 r=>?_
  cases q1:QV ds with
  |none=>rw[q1] at g;exact g.elim
  |some xs=>
   rw[q1] at g
   have e:=QU q1
   subst e
   obtain⟨v,rfl,r1⟩:=r.one
   simp only[Rep] at r1
   obtain⟨l,ws,rfl,e1,t⟩:=r1
   exact⟨l,ws,rfl,SqL.of (R1.fh _ _ e1),g _ F1 H1 x (Q5 (SqL.of e1) t)⟩
end
section
variable{X:Cx}{pins:List (Addr×Obj)}{σ:St}{H:Hp}{s:Shared}{h':Heap}
end
section
variable{X:Cx}{pins:List (Addr×Obj)}{σ:St}{H:Hp}{s:Shared}{h':Heap}{a:Addr}{cls:Value}
variable{M:Model}{A:Around}{E:Value→Shared→Prop}{Q:Unit→Shared→Prop}
theorem np(b:Addr):∀p∈([]:List (Addr×Obj)),p.1≠b:=fun p hp=>nomatch hp
end
section
variable{P:Program}{w:World}{K:Frag}{mg:Str→Option Value}{base:Heap}
end
section
variable{X:Cx}{pos:Pos}{e:Expr}{es:List Expr}{fe:FE}{fs:FA}{st:Stmt}
end
section
variable{P:Program}{w:World}{K:Frag}{mg:Str→Option Value}{base:Heap}
end
section
variable{X:Cx}{pins:List (Addr×Obj)}{σ:St}{H:Hp}{s:Shared}{a:Addr}{cls:Value}
end
section
variable{prog:Program}{w:World}{A:Around}{E:Value→Shared→Prop}{K:Frag}{x C:Addr}
end
section
variable{X:Cx}{pos:Pos}{a b:Expr}{fa:FE}
end
section
variable{X:Cx}{pos:Pos}{e:Expr}{es:List Expr}{fs:FA}{st:Stmt}
end
section
variable{X:Cx}{pos:Pos}{e a b:Expr}{es:List Expr}{fe fa fb:FE}{fs:FA}
end
section
variable{X:Cx}{pos:Pos}{e a b:Expr}{es:List Expr}{fe fa fb:FE}{fs:FA}
end
section
variable{P:Program}{w:World}{K:Frag}{mg:Str→Option Value}{base:Heap}
end
section
variable{X:Cx}{pos:Pos}{e:Expr}{es:List Expr}{fe:FE}{fs:FA}
end
theorem yC:∀(names:List (Str×NameKind)) (n:Nat) (acc:List (Str×Addr)),cellsFrom n names acc=cellsFrom n names []++acc:=by
 intro l_
 induction l_ with
 |nil=>
  rintro n acc
  exact rfl
 |cons p_ r ih_=>
  obtain⟨x,k⟩:=p_
  rintro n acc
  rw[cellsFrom.eq_def,cellsFrom.eq_def n ((x,k)::r) []]
  simp only
  split
  ·rw[ih_ (n+1) ((x,n)::acc),ih_ (n+1) [(x,n)],append_assoc];rfl
  ·exact ih_ n acc
theorem xk:∀(names:List (Str×NameKind)) (n:Nat) {x:Str} {c:Addr},(x,c)∈cellsFrom n names []→(x,NameKind.cell)∈names:=by
 intro l_
 induction l_ with
 |nil=>
  rintro n x c h
  rw[cellsFrom.eq_def] at h;cases h
 |cons p_ r ih_=>
  obtain⟨y,k⟩:=p_
  rintro n x c h
  rw[cellsFrom.eq_def] at h
  simp only at h
  split at h
  ·rename_i hk
   rw[yC] at h
   rcases mem_append.mp h with z|z
   ·exact mem_cons_of_mem _ (ih_ _ z)
   ·have z:(x,c)=(y,n):=by simpa using z
    cases z
    have:k=.cell:=by simpa using hk
    subst this
    exact mem_cons_self
  ·exact mem_cons_of_mem _ (ih_ _ h)
theorem jq{x:Str}{β:Type}:∀{a b:List (Str×β)} {c:β},(a++b).lookup x=some c→a.lookup x=some c∨(a.lookup x=none∧b.lookup x=some c)
 |[],b,c,h=>.inr ⟨rfl,h⟩
 | (y,d)::a,b,c,h=>by
  rw[List.cons_append,lookup_cons] at h
  rw[lookup_cons]
  cases q:x==y with
  |true=>rw[q] at h;exact .inl h
  |false=>rw[q] at h;exact jq h
theorem vP{x:Str}{β:Type}:∀{a b:List (Str×β)},a.lookup x=none→(a++b).lookup x=b.lookup x
 |[],b,h=>rfl
 | (y,d)::a,b,h=>by
  rw[List.cons_append,lookup_cons]
  rw[lookup_cons] at h
  cases q:x==y with
  |true=>rw[q] at h;cases h
  |false=>rw[q] at h;exact vP h
noncomputable abbrev inCells(scope:Scope)(C:Addr)(env:Env):List (Str×Addr):=cellsFrom (C+1) scope.names (xt scope env)
noncomputable def ZP(scope:Scope)(x:Str):Bool:=match scope.names.lookup x with
 |some .cell=>true
 |_=>false
noncomputable def _root_.L2.Cx.compC(X:Cx)(scope:Scope)(N:List Str)(s:Shared)(H:Hp)(C:Addr)(fp:List Addr):Cx:=
 { prog:=X.prog,w:=X.w,K:=X.K,mg:=X.mg,base:=X.base,A:=X.A,N:=N,s₀:=s,H₀:=H,env:=compEnvC scope (inCells scope C X.env) C X.env,outer:=X.stack,stack:=X.stack,ex:=fp,fn:=ZP scope,calm:=X.calm,pn:=[],xe:=fun _ _=>False }
structure yU(X:Cx)(scope:Scope):Prop where
 kind:scope.kind=.function
 locs:∀y∈scope.names,y.2=.local→scope.names.lookup y.1=some .local
 cels:∀y∈scope.names,y.2=.cell→scope.names.lookup y.1=some .cell
 fres:∀y∈scope.names,y.2=.free→scope.names.lookup y.1=some .free
 free:∀y∈scope.names,y.2=.free→X.env.kindOf y.1=some .cell∨X.env.kindOf y.1=some .free
theorem xI{env:Env}:∀{names:List (Str×NameKind)} {x:Str},((names.map fun (n,k)=>if (k==NameKind.free&&env.scope.kind == .function&&env.kindOf n==some .cell) then (n,NameKind.cell) else (n,k)).lookup x=some .cell ∨
  (names.map fun (n,k)=>if (k==NameKind.free&&env.scope.kind == .function&&env.kindOf n==some .cell) then (n,NameKind.cell) else (n,k)).lookup x=some .free)→∃y∈names,y.1=x∧(y.2=.free∨y.2=.cell)
 |[],_,h=>by rcases h with h|h <;> simp at h
 | (n,k)::r,x,h=>by
  rw[map_cons] at h
  by_cases hx:x=n
  ·subst hx
   by_cases hk:k=.free
   ·exact⟨_,mem_cons_self,rfl,.inl hk⟩
   ·have hb:(k==NameKind.free)=false:=by simpa using hk
    simp only[hb,Bool.false_and,Bool.false_eq_true,if_false,lookup_cons,beq_self_eq_true] at h
    rcases h with h|h
    ·exact⟨_,mem_cons_self,rfl,.inr (Option.some.inj h)⟩
    ·exact absurd (Option.some.inj h) hk
  ·have hb:(x==n)=false:=by simpa using hx
   have step:∀q:Str×NameKind,q.1=n→((q::(r.map fun (n,k)=>if (k==NameKind.free&&env.scope.kind == .function&&env.kindOf n==some .cell) then (n,NameKind.cell) else (n,k))).lookup x)=((r.map fun (n,k)=>if (k==NameKind.free&&env.scope.kind == .function&&env.kindOf n==some .cell) then (n,NameKind.cell) else (n,k)).lookup x):=fun q hq=>by
    obtain⟨q1,q2⟩:=q
    simp only at hq
    subst hq
    rw[lookup_cons,hb]
   have h':((r.map fun (n,k)=>if (k==NameKind.free&&env.scope.kind == .function&&env.kindOf n==some .cell) then (n,NameKind.cell) else (n,k)).lookup x=some .cell∨(r.map fun (n,k)=>if (k==NameKind.free&&env.scope.kind == .function&&env.kindOf n==some .cell) then (n,NameKind.cell) else (n,k)).lookup x=some .free):=by
    rcases h with h|h
    ·left;exact(step _ (by show(if (k==NameKind.free&&env.scope.kind == .function&&env.kindOf n==some .cell)=true then (n,NameKind.cell) else (n,k)).1=n;split <;> rfl)).symm.trans h
    ·right;exact(step _ (by show(if (k==NameKind.free&&env.scope.kind == .function&&env.kindOf n==some .cell)=true then (n,NameKind.cell) else (n,k)).1=n;split <;> rfl)).symm.trans h
   obtain⟨y,hy,e⟩:=xI h'
   exact⟨y,mem_cons_of_mem _ hy,e⟩
section
variable{X:Cx}{scope:Scope}{N':List Str}
theorem jE(S:yU X scope)(ok:X.Ok){x:Str}{c:Addr}(h:(xt scope X.env).lookup x=some c):X.env.cells.lookup x=some c∧scope.names.lookup x=some .free:=by
 rcases wI h with q|⟨y,hy,e1,e2,e3⟩
 ·simp at q
 ·subst e1
  obtain⟨c',hc'⟩:=ok.has y.1 (S.free y hy e2)
  rw[hc'] at e3 ⊢
  exact⟨by rw[e3];rfl,S.fres y hy e2⟩
theorem XO(S:yU X scope)(ok:X.Ok){x:Str}{c C:Addr}(h:(inCells scope C X.env).lookup x=some c) :
  ((x,c)∈cellsFrom (C+1) scope.names []∧scope.names.lookup x=some .cell)∨(X.env.cells.lookup x=some c∧scope.names.lookup x=some .free):=by
 unfold inCells at h
 rw[yC] at h
 rcases jq h with q|⟨_,q⟩
 ·have:=PySem.mem_of_lookup q
  exact .inl ⟨this,S.cels _ (xk _ _ this) rfl⟩
 ·exact .inr (jE S ok q)
theorem XN(S:yU X scope){x:Str}{C:Addr}(h:scope.names.lookup x=some .free):(inCells scope C X.env).lookup x=(xt scope X.env).lookup x:=by
 unfold inCells
 rw[yC]
 refine vP ?_
 cases q:(cellsFrom (C+1) scope.names []).lookup x with
 |none=>rfl
 |some c=>
  have:=S.cels _ (xk _ _ (PySem.mem_of_lookup q)) rfl
  rw[h] at this;cases this
theorem VN{pins:List (Addr×Obj)}{σ σ':St}{H:Hp}{s:Shared}{h1:Heap}{fp:List Addr}(S:yU X scope)(I:Inv X pins σ H s)(hfp:∀b∈fp,uw X pins H b)(hlt:∀b∈fp,b<s.heap.objs.size)
  (hn:h1.Ns s.heap.objs.size fun _=>none) (hsb:∀b o,s.heap.get? b=some o→h1.get? b=some o) (hcs:CellsOk h1 (s.heap.objs.size+1) (cellsFrom (s.heap.objs.size+1) scope.names [])) (hl:σ'.length=N'.length)
  (hσ:∀(i:Nat) (v:V),σ'[i]?=some (some v)→∃(x:Str) (j:Nat),N'[i]?=some x∧X.N[j]?=some x∧σ[j]?=some (some v)∧scope.names.lookup x=some .free) :
  Inv (X.compC scope N' s H s.heap.objs.size fp) [] σ' H { s with heap:=h1 }:=by
 have hH:H s.heap.objs.size=none:=I.hok.fresh (le_refl _)
 have kept:∀{c v},s.heap.IsCell c v→h1.IsCell c v:=fun ⟨o,e,d⟩=>⟨o,hsb _ o e,d⟩
 have olt:∀{x c},X.env.cells.lookup x=some c→c<s.heap.objs.size:=fun {x c} e=>by
  obtain⟨v,z⟩:=I.cell x c e
  exact z.lt
 have nge:∀{x c},(x,c)∈cellsFrom (s.heap.objs.size+1) scope.names []→s.heap.objs.size+1≤c:=fun {x c} e=>(hcs.empty x c e).2
 have cl:∀{x c},(inCells scope s.heap.objs.size X.env).lookup x=some c→((x,c)∈cellsFrom (s.heap.objs.size+1) scope.names []∧scope.names.lookup x=some .cell)∨(X.env.cells.lookup x=some c∧scope.names.lookup x=some .free):=fun h=>XO S I.ok h
 refine⟨⟨I.ok.mod,S.kind,I.ok.glob,I.ok.blt,le_refl _,fun x y c e1 e2=>?_,fun x hx=>?_,fun x c hf e=>?_,I.ok.hd,I.ok.frames,.inl rfl,fun b hb=>?_,I.bs,le_trans I.ok.bsz I.sz,fun b o e hb=>?_,fun b hb hs=>?_,I.stack,I.stkFree⟩,
  I.os.symm ▸ rfl,I.bare,Un.kept hsb,⟨_,hn,fun i x v e1 e2 e3=>?_⟩,fun x c e=>?_,hH,fun x c e=>?_,fun p hp=>absurd (show p∈([]:List (Addr×Obj)) from hp) (by simp),I.hok.kept hsb,hl⟩
 ·rcases cl e1 with ⟨m1,_⟩|⟨m1,_⟩ <;> rcases cl e2 with ⟨m2,_⟩|⟨m2,_⟩
  ·exact name_of_addr hcs.apart m1 m2
  ·exact absurd (lt_of_lt_of_le (olt m2) (Nat.le_of_succ_le (nge m1))) (lt_irrefl _)
  ·exact absurd (lt_of_lt_of_le (olt m1) (Nat.le_of_succ_le (nge m2))) (lt_irrefl _)
  ·exact I.ok.inj x y c m1 m2
 ·have hx:(relabel scope X.env).names.lookup x=some .cell∨(relabel scope X.env).names.lookup x=some .free:=hx
  obtain⟨y,hy,rfl,hk⟩:=xI hx
  refine Option.isSome_iff_exists.mp (cellsFrom_some _ _ _ ?_)
  rcases hk with hk|hk
  ·exact .inr (Option.isSome_iff_exists.mpr (wJ (.inl ⟨y,hy,rfl,hk⟩)))
  ·exact .inl (S.cels y hy hk)
 ·have hf:ZP scope x=true:=hf
  unfold ZP at hf
  rcases cl e with ⟨m1,_⟩|⟨_,m2⟩
  ·exact le_of_lt (nge m1)
  ·rw[m2] at hf;cases hf
 ·have hb:b∈fp:=hb
  refine⟨ne_of_lt (hlt b hb),fun x c e=>?_⟩
  rcases cl e with ⟨m1,_⟩|⟨m1,_⟩
  ·exact fun z=>absurd (lt_of_lt_of_le (hlt b hb) (Nat.le_of_succ_le (z ▸ nge m1))) (lt_irrefl _)
  ·exact(hfp b hb).2.2.2.2.1 x c m1
 ·have hb:b∈fp:=hb
  rcases (hfp b hb).2.2.2.1 with z|z
  ·exact I.ok.noex b o e z
  ·exact absurd (lt_of_lt_of_le (Heap.lt_size e) (le_trans I.ok.bsz z)) (lt_irrefl _)
 ·have hb:b∈fp:=hb
  obtain⟨_,f1,f2,_⟩:=hfp b hb
  rcases mem_cons.mp (I.stkSub b hs) with z|z
  ·exact f1 z
  ·exact f2 z
 ·obtain⟨x',j,e4,e5,e6,e9⟩:=hσ i v e2
  have hy:=PySem.mem_of_lookup e9
  have e1':N'[i]?=some x:=e1
  rw[e1'] at e4;cases e4
  have kd:=S.free _ hy rfl
  obtain⟨m,hm,hl⟩:=I.loc
  obtain⟨u,ru,lk⟩:=hl j x v e5 e6 (kd.elim (fun z=>.inr (.inl z)) fun z=>.inr (.inr z))
  refine⟨u,ru,?_⟩
  rcases lk with ⟨z,_⟩|⟨z,c,hc,hcell⟩
  ·rcases kd with k|k <;> rw[k] at z <;> cases z
  ·obtain⟨c',hc'⟩:=wJ (env:=X.env) (names:=scope.names) (cs:=[]) (x:=x) (.inl ⟨_,hy,rfl,rfl⟩)
   have hc2:(inCells scope s.heap.objs.size X.env).lookup x=some c':=(XN S e9).trans hc'
   have:=(jE S I.ok hc').1
   rw[hc] at this;cases this
   have e3':(relabel scope X.env).names.lookup x=some .local∨(relabel scope X.env).names.lookup x=some .cell∨(relabel scope X.env).names.lookup x=some .free:=e3
   rcases e3' with q|q|q
   ·exact absurd q (xx e9)
   ·exact .inr ⟨.inl q,c,hc2,kept hcell⟩
   ·exact .inr ⟨.inr q,c,hc2,kept hcell⟩
 ·rcases cl e with ⟨m1,_⟩|⟨m1,_⟩
  ·exact⟨none,(hcs.empty x c m1).1⟩
  ·obtain⟨v,z⟩:=I.cell x c m1
   exact⟨v,kept z⟩
 ·rcases cl e with ⟨m1,_⟩|⟨m1,_⟩
  ·exact I.hok.fresh (le_of_lt (nge m1))
  ·exact I.freeC x c m1
end
theorem ZJ{names:List (Str×NameKind)}{h:Heap}{C:Addr}{m:Str→Option Value}(n:h.Ns C m):(pushCells h names).Ns C m:=n.keeps fun b o e=>pushCells_keeps names h b o e
theorem Xb{M:Model}{A:Around}{E:Value→Shared→Prop}{s:Shared}{scope:Scope}{env:Env}{Q:Env→Shared→Prop}
  (k:∀h1,h1.Ns s.heap.objs.size (fun _=>none)→(∀b o,s.heap.get? b=some o→h1.get? b=some o)→CellsOk h1 (s.heap.objs.size+1) (cellsFrom (s.heap.objs.size+1) scope.names []) →
   Q { scope:=scope,locals:=s.heap.objs.size,globals:=env.globals,cells:=inCells scope s.heap.objs.size env,qual:=env.qual,func:=none,code:=env.code,frame:=env.frame,builtins:=env.builtins } { s with heap:=h1 }) :
  wpAny M A (newFunctionEnv scope env.globals (xt scope env) [] env.qual none .none (some env)) Q E s:=by
 unfold newFunctionEnv
 refine wpAny_bind (wpAny_alloc ?_)
 refine wpAny_bind (wpAny_layCells _ (fun _ _ _=>rfl) _ _ _ _ ?_)
 refine wpAny_bind (wpAny_pure (wpAny_pure ?_))
 have hs:(s.heap.push { cls:=Value.type "dict", data:=Data.dict #[] }).objs.size=s.heap.objs.size+1:=Heap.size_push _ _
 have:=k (pushCells (s.heap.push { cls:=Value.type "dict", data:=Data.dict #[] }) scope.names) ?_ ?_ ?_
 ·have e:inCells scope s.heap.objs.size env=cellsFrom (s.heap.push { cls:=Value.type "dict", data:=Data.dict #[] }).objs.size scope.names (xt scope env):=by rw[hs]
  rw[e] at this
  exact this
 ·exact ZJ (Heap.Ns.new _ _)
 ·exact fun b o e=>pushCells_keeps _ _ _ _ (get?_push_of_some _ e)
 ·have:=cellsFrom_ok scope.names (s.heap.push { cls:=Value.type "dict", data:=Data.dict #[] }) (s.heap.objs.size+1) [] ⟨(fun _ _ h=>nomatch h),List.Pairwise.nil⟩ (Nat.le_of_eq hs.symm)
  rw[hs] at this
  exact this
noncomputable def Z7(osc scope:Scope):Bool:=(match scope.kind with | .function=>true|_=>false)&&scope.names.all (fun y=>match y.2 with
 |.cell=>(match scope.names.lookup y.1 with|some .cell=>true|_=>false)
 |.local=>(match scope.names.lookup y.1 with|some .local=>true|_=>false)
 |.free=>(match scope.names.lookup y.1 with|some .free=>true|_=>false)&&(match osc.names.lookup y.1 with|some .cell=>true|some .free=>true|_=>false)
 |_=>true)
theorem jR{X:Cx}{scope:Scope}(h:Z7 X.env.scope scope=true):yU X scope:=by
 unfold Z7 at h
 rw[Bool.and_eq_true,all_eq_true] at h
 obtain⟨h1,h2⟩:=h
 refine⟨?_,fun y hy z=>?_,fun y hy z=>?_,fun y hy z=>?_,fun y hy z=>?_⟩
 ·split at h1
  ·assumption
  ·cases h1
 ·have:=h2 y hy;rw[z] at this
  simp only at this
  split at this
  ·assumption
  ·cases this
 ·have:=h2 y hy;rw[z] at this
  simp only at this
  split at this
  ·assumption
  ·cases this
 ·have:=h2 y hy;rw[z] at this
  simp only[Bool.and_eq_true] at this
  have:=this.1
  split at this
  ·assumption
  ·cases this
 ·have:=h2 y hy;rw[z] at this
  simp only[Bool.and_eq_true] at this
  have:=this.2
  split at this
  ·left;assumption
  ·right;assumption
  ·cases this
section
variable{X:Cx}{scope:Scope}{N':List Str}{tg iter elt:Expr}{ifs:List Expr}{pos:Pos}{wi:TI}{g:TG}{ti:TT}{te:TE}{s0:St→St}
theorem Y6{pins:List (Addr×Obj)}{σ:St}{H:Hp}{s:Shared}{QQ:V→Hp→Prop}{J:It}{fp:List Addr}{it acc:Addr}{tn:Nat→Heap→Prop}{RR:Addr→Result→Shared→Prop}{E:Value→Shared→Prop}{W:Nat→Nat→St→Hp→Prop}{m0:Nat}
  (S:yU X scope) (hc:X.calm=true) (hl:(s0 σ).length=N'.length)
  (hσ:∀(i:Nat) (v:V),(s0 σ)[i]?=some (some v)→∃(x:Str) (j:Nat),N'[i]?=some x∧X.N[j]?=some x∧σ[j]?=some (some v)∧scope.names.lookup x=some .free)
  (hg:∀s H C fp,PG (X.compC scope N' s H C fp) tg g) (ht:∀s H C fp,PTs (X.compC scope N' s H C fp) ifs ti) (he:∀s H C fp,PE (X.compC scope N' s H C fp) elt te)
  (I:Inv X pins σ H s) (T:jS X.prog X.w X.K tg J fp it tn) (st:tn 0 s.heap) (hfp:∀b∈fp,uw X pins H b) (hlt:∀b∈fp,b<s.heap.objs.size) (hacc:acc<s.heap.objs.size)
  (w0:W 0 m0 (s0 σ) H) (turn:∀i m σ1 H,W i m σ1 H→(J.stop i H∧QQ (.ref acc) H)∨(J.go i H∧∀x H',J.yld i H x H'→g x σ1 H' fun σ2 H2=>ti σ2 H2 fun b H3=>
    if b=true then te σ2 H3 fun y H4=>∃ys,H4 acc=some (.lst ys)∧ys.length<sizeLine∧∃m',m'<m∧W (i+1) m' σ2 (upd H4 acc (.lst (ys++[y]))) else ∃m',m'<m∧W (i+1) m' σ2 H3))
  (hRR:∀s',(∃m,s'.heap.Ns s.heap.objs.size m)→(∀h',Heap.SameBut s.heap.objs.size s'.heap h'→EP X pins σ (fun v H'=>QQ v H'∧H' s.heap.objs.size=none) (.ref acc) { s' with heap:=h' })→RR s.heap.objs.size (.ok .next) s') :
  wpAny (model X.prog X.w) X.A (newFunctionEnv scope X.env.globals (xt scope X.env) [] X.env.qual none .none (some X.env)) (fun cenv s₄=>
   codeAny (model X.prog X.w) X.A (.compStart (.ListComp elt [⟨tg,iter,ifs,0⟩] scope pos) 0 (.ref it) (.ref acc) { cenv with scope:=relabel scope X.env }) (RR cenv.locals) s₄) E s:=by
 refine Xb fun h1 hns keep3 hcs=>?_
 have Y0:Inv (X.compC scope N' s H s.heap.objs.size fp) [] (s0 σ) H { s with heap:=h1 }:=VN S I hfp hlt hns keep3 hcs hl hσ
 have fpY:∀{H':Hp},(∀b∈fp,H' b=none)→∀b∈fp,uw (X.compC scope N' s H s.heap.objs.size fp) [] H' b:=fun {H'} hn b hb=>by
  obtain⟨f0,f1,f2,f3,f4,f5⟩:=hfp b hb
  refine⟨hn b hb,ne_of_lt (hlt b hb),fun z=>?_,.inl hb,fun x c e=>(Y0.ok.exf b hb).2 x c e,fun p hp=>absurd (show p∈([]:List (Addr×Obj)) from hp) (by simp)⟩
  rcases mem_cons.mp (I.stkSub b z) with q|q
  ·exact f1 q
  ·exact f2 q
 have st1:tn 0 h1:=T.keep _ _ _ st fun b hb o e=>keep3 b o e
 have loop:∀s3:Shared,s3 = { s with heap:=h1 } →
   codeAny (model X.prog X.w) X.A (.compLoop (.ListComp elt [⟨tg,iter,ifs,0⟩] scope pos) 0 (.ref it) (.ref acc) (X.compC scope N' s H s.heap.objs.size fp).env) (RR s.heap.objs.size) s3:=by
  rintro s3 rfl
  refine Zn (fun n s'=>∃i σ' H',Inv (X.compC scope N' s H s.heap.objs.size fp) [] σ' H' s'∧tn i s'.heap∧(∀b∈fp,H' b=none)∧W i n σ' H') ?_ m0 ⟨0,s0 σ,H,Y0,st1,fun b hb=>(hfp b hb).1,w0⟩
  rintro n s4 ⟨i,σ4,H4,I4,st4,fr4,w4⟩
  rcases turn i n σ4 H4 w4 with ⟨stop,qn⟩|⟨go,step⟩
  ·refine thn (T.done (X.compC scope N' s H s.heap.objs.size fp) rfl rfl rfl hc i [] s4 σ4 H4 _ I4 (fpY fr4) st4 stop) fun r s5 z_=>?_
   obtain⟨hr,I5⟩:=z_
   subst hr
   obtain⟨m5,n5,_⟩:=id I5.loc
   have hC:H4 s.heap.objs.size=none:=I5.free
   refine hRR s5 ⟨m5,n5⟩ fun h' sb=>⟨.ref acc,H4,?_,rfl,qn,hC⟩
   refine I.call' (s':={ s5 with heap:=h' }) (ch:=fp) I5.os ⟨fun b o e n hb hx=>?_,fun b o e n hb hx=>?_,fun b o e n hx=>I5.base.free b o e n hx,fun b o e hx=>?_,I5.base.tups,I5.base.frzs,I5.base.tbls⟩ (WJ I5.hok hC fun b o hb e=>(sb.2 b hb).trans e) I5.bare fun b hb=>?_
   ·exact(sb.2 b (ne_of_lt (Heap.lt_size e))).trans (I5.base.keep b o e n hb hx)
   ·obtain⟨sl,q⟩:=I5.base.slot b o e n hb hx
    exact⟨sl,(sb.2 b (ne_of_lt (Heap.lt_size e))).trans q⟩
   ·obtain⟨o',q⟩:=I5.base.there b o e hx
    exact⟨o',(sb.2 b (ne_of_lt (Heap.lt_size e))).trans q⟩
   ·obtain⟨f0,f1,f2,f3,f4,f5⟩:=hfp b hb
    exact⟨f3,f1,f4,f5⟩
  ·refine thn (T.item (X.compC scope N' s H s.heap.objs.size fp) rfl rfl rfl hc i [] s4 σ4 H4 _ I4 (fpY fr4) st4 go) fun r s5 z_=>?_
   obtain⟨u,hr,h5⟩:=z_
   subst hr
   refine thn h5 fun _ s6 z_=>?_
   obtain⟨x,H6,I6,r6,y6,st6,fr6⟩:=z_
   have I6':=I6.pinned (fpY fr6) (T.obj _ _ st6)
   refine thn (hg _ _ _ _ _ s6 σ4 H6 x u _ I6' r6 (step x H6 y6)) fun _ s7 z_=>?_
   obtain⟨σ7,H7,I7,q7⟩:=z_
   refine thn (ht _ _ _ _ _ s7 σ7 H7 _ I7 q7) fun ok s8 z_=>?_
   obtain⟨H8,I8,q8⟩:=z_
   have again:∀{s9:Shared} {H9:Hp} {m':Nat},Inv (X.compC scope N' s H s.heap.objs.size fp) ([]++uc fp s6.heap) σ7 H9 s9→m'<n→W (i+1) m' σ7 H9→∃m,m<n∧∃i σ' H',Inv (X.compC scope N' s H s.heap.objs.size fp) [] σ' H' s9∧tn i s9.heap∧(∀b∈fp,H' b=none)∧W i m σ' H':=fun {s9 H9 m'} I9 hm w9=>by
    refine⟨m',hm,i+1,σ7,H9,I9.unpinned,T.keep _ _ _ st6 fun b hb o e=>(I9.pin (b,o) (mem_append_right _ (mem_append_right _ (xf hb e)))).1,fun b hb=>?_,w9⟩
    obtain⟨o,e,d⟩:=T.obj _ _ st6 b hb
    exact(I9.pin (b,o) (mem_append_right _ (mem_append_right _ (xf hb e)))).2.1
   cases ok with
   |false=>
    rw[if_neg (by simp)] at q8
    obtain⟨m',hm,w8⟩:=q8
    exact again I8 hm w8
   |true=>
    rw[if_pos rfl] at q8
    refine thn (he _ _ _ _ _ s8 σ7 H8 _ I8 q8) fun y s9 z_=>?_
    obtain⟨z,H9,I9,r9,ys,e9,l9,m',hm,w9⟩:=z_
    refine thn (uh _ s9 σ7 H9 (.ref acc) [z] (.ref acc) [y] (fun _ H'=>H'=upd H9 acc (.lst (ys++[z]))) I9 rfl (.cons r9 .nil) ⟨acc,ys,z,rfl,rfl,e9,l9,rfl⟩) fun _ s10 z_=>?_
    obtain⟨_,H10,I10,_,e10⟩:=z_
    subst e10
    exact again I10 hm w9
 exact codeAny_compStart_list (loop _ rfl) (T.self _ 0 _ _ _ st1 (loop _ rfl))
theorem Uq(S:yU X scope)(hc:X.calm=true)(hl:∀σ:St,σ.length=X.N.length→(s0 σ).length=N'.length)
  (hσ:∀(σ:St) (i:Nat) (v:V),(s0 σ)[i]?=some (some v)→∃(x:Str) (j:Nat),N'[i]?=some x∧X.N[j]?=some x∧σ[j]?=some (some v)∧scope.names.lookup x=some .free)
  (hi:PI X tg iter wi) (hg:∀s H C fp,PG (X.compC scope N' s H C fp) tg g) (ht:∀s H C fp,PTs (X.compC scope N' s H C fp) ifs ti) (he:∀s H C fp,PE (X.compC scope N' s H C fp) elt te)
  (hs:∀x,foldedSetIterable iter X.env x=pure x:=by intro _;rfl):PE X (.ListComp elt [⟨tg,iter,ifs,0⟩] scope pos) (Yf s0 wi g ti te):=by
 intro pins s σ H Q I h
 rw[eval_ListComp]
 have hclos:=x9 (scope:=scope) (env:=X.env) fun y hy hk=>Option.isSome_iff_exists.mpr (I.ok.has y.1 (S.free y hy hk))
 refine wpAny_comprehension_free (use:=none) rfl hs hclos S.kind S.locs (thn (hi pins s σ H _ I h) fun x s1 h1=>thn h1 fun itv s2 h2=>?_)
 obtain⟨it,fp,tn,J,H2,e,I2,T,st2,f2,hw⟩:=h2
 subst e
 have hf:H2 s2.heap.objs.size=none:=I2.hok.fresh (le_refl _)
 obtain⟨W,⟨m0,w0⟩,turn⟩:=hw _ hf
 have hlt:=Jq (pins:=pins) (σ:=σ) (H:=H2) T st2
 refine wpAny_newObj_type ?_
 have I3:Inv X pins σ (upd H2 s2.heap.objs.size (.lst [])) { s2 with heap:=s2.heap.push { cls:=.type "list", dict:=none,data:=.seq ([]:List Value).toArray } }:=
  I2.laid (t':=s2.toks) (o:=.lst []) (fun b u e=>get?_push_of_some _ e) (le_refl _) ⟨zero_le _,[],0,.nil,Heap.get?_push_size _ rfl⟩
 have hsz:s2.heap.objs.size<(s2.heap.push { cls:=.type "list", dict:=none,data:=.seq ([]:List Value).toArray }).objs.size:=by rw[Heap.size_push];exact lt_succ_self _
 refine Y6 (s0:=s0) (QQ:=Q) (W:=W) (m0:=m0) S hc (hl σ I2.len) (hσ σ) hg ht he I3 T (T.keep _ _ _ st2 fun b hb o e=>get?_push_of_some _ e) (fun b hb=>?_) (fun b hb=>lt_trans (hlt b hb) hsz) hsz w0 turn fun s' ⟨m,hn⟩ hq=>⟨m,hn,fun h' sb=>let ⟨v,H',I',r',q',_⟩:=hq h' sb;⟨v,H',I',r',q'⟩⟩
 obtain⟨f0,f1,f2,f3⟩:=f2 b hb
 exact⟨by rw[zg (ne_of_lt (hlt b hb))];exact f0,f1,f2,f3⟩
end
section
variable{X:Cx}{scope:Scope}{tn fr:List Str}{idx:List Nat}{tg iter elt:Expr}{ifs:List Expr}{pos:Pos}{fi:FA}{set:FG}{ft:FT}{fe:FE}
theorem Vd(hb:Z7 X.env.scope scope=true)(hc:X.calm=true)(hfr:FreeOk scope X.N fr idx)(so:jI set)(hi:PDI X tg iter fi)
  (hg:∀s H C fp,PDG (X.compC scope (tn++fr) s H C fp) tg set) (ht:∀s H C fp,JI (X.compC scope (tn++fr) s H C fp) ifs ft) (he:∀s H C fp,PDE (X.compC scope (tn++fr) s H C fp) elt fe)
  (hs:∀x,foldedSetIterable iter X.env x=pure x:=by intro _;rfl):PDF X (.ListComp elt [⟨tg,iter,ifs,0⟩] scope pos) (yY tn.length idx fi set ft fe):=
 PE.imp (Uq (s0:=wT tn.length idx) (g:=tG (X.compC scope (tn++fr) X.s₀ X.H₀ 0 []) set) (ti:=tTs (X.compC scope (tn++fr) X.s₀ X.H₀ 0 []) ft) (te:=tE (X.compC scope (tn++fr) X.s₀ X.H₀ 0 []) fe)
  (jR hb) hc (fun σ _=>by simp[wT,hfr.len]) (ZB hfr) hi hg ht he hs) (VM so rfl)
end
section
variable{X:Cx}{tg:Expr}
end
section
variable{X:Cx}{pos:Pos}{e tg:Expr}{es:List Expr}{fe:FE}{fs:FA}
end
section
variable{P:Program}{w:World}{K:Frag}{mg:Str→Option Value}{base:Heap}
end
section
variable{X:Cx}{pos:Pos}{e:Expr}{es:List Expr}{fe:FE}{fs:FA}
end
section
variable{X:Cx}{pins:List (Addr×Obj)}{σ:St}{H:Hp}{s:Shared}{a:Addr}{cls:Value}
end
section
variable{X:Cx}{pos:Pos}{e a b:Expr}{es:List Expr}{fe fa fb:FE}{fs:FA}
end
section
variable{X:Cx}{tg:Expr}
end
section
variable{X:Cx}{pos:Pos}{e tg:Expr}{es:List Expr}{fe:FE}{fs:FA}
end
section
variable{X:Cx}{pos:Pos}{e a b:Expr}{es:List Expr}{fe fa fb:FE}{fs:FA}
end
open PySem.W
noncomputable def lxI:List Int→List Int→Bool
 |[],[]=>false
 |[],_::_=>true
 |_::_,[]=>false
 |a::x,b::y=>if a=b then lxI x y else decide (a<b)
theorem vf:∀x:List Int,lxI x x=false:=by
 intro l_
 induction l_ with
 |nil=>
  exact rfl
 |cons a x ih_=>
  rw[lxI,if_pos rfl];exact ih_
theorem Wx:∀x y:List Int,lxI x y=false→lxI y x=false→x=y
 |[],[],_,_=>rfl
 |[],_::_,h,_=>by simp[lxI] at h
 |_::_,[],_,h=>by simp[lxI] at h
 |a::x,b::y,h1,h2=>by
  rw[lxI] at h1 h2
  by_cases e:a=b
  ·subst e
   rw[if_pos rfl] at h1 h2
   rw[Wx x y h1 h2]
  ·rw[if_neg e] at h1
   rw[if_neg (Ne.symm e)] at h2
   simp only[decide_eq_false_iff_not] at h1 h2
   lia
theorem xg:∀x y z:List Int,lxI x y=true→lxI y z=true→lxI x z=true
 |[],[],_,h,_=>by simp[lxI] at h
 |_::_,[],_,h,_=>by simp[lxI] at h
 |_,_::_,[],_,h=>by simp[lxI] at h
 |[],_::_,_::_,_,_=>rfl
 |a::x,b::y,c::z,h1,h2=>by
  rw[lxI] at h1 h2 ⊢
  by_cases e:a=b
  ·subst e
   rw[if_pos rfl] at h1
   by_cases e2:a=c
   ·subst e2;rw[if_pos rfl] at h2 ⊢;exact xg x y z h1 h2
   ·rw[if_neg e2] at h2 ⊢;exact h2
  ·rw[if_neg e] at h1
   simp only[decide_eq_true_eq] at h1
   by_cases e2:b=c
   ·subst e2;rw[if_neg e];simpa using h1
   ·rw[if_neg e2] at h2
    simp only[decide_eq_true_eq] at h2
    rw[if_neg (by lia)];simp only[decide_eq_true_eq];lia
theorem Zd{x y:List Int}(h:lxI x y=true):lxI y x=false:=by
 cases q:lxI y x with
 |false=>rfl
 |true=>have:=xg x y x h q;rw[vf] at this;cases this
theorem uV{x y:List Int}(h:lxI x y=false)(n:x≠y):lxI y x=true:=by
 cases q:lxI y x with
 |true=>rfl
 |false=>exact absurd (Wx x y h q) n
noncomputable def Pw{α:Type}(lt:Nat→Nat→Bool)(n:Nat):KasT α→(α→Prop)→Prop
 |.ret a,G=>G a
 |.ask i j k,G=>i<n∧j<n∧Pw lt n (k (lt i j)) G
section
variable{lt:Nat→Nat→Bool}{n:Nat}
theorem Uh{α:Type}{t u:KasT α}{G:α→Prop}(h:Pw lt n t G):Pw lt n (if true=true then t else u) G:=by rw[if_pos rfl];exact h
theorem Me{α:Type}{t u:KasT α}{G:α→Prop}(h:Pw lt n u G):Pw lt n (if false=true then t else u) G:=by rw[if_neg (by simp)];exact h
theorem Pw.bind{α β:Type}{f:α→KasT β}{G:β→Prop}:∀(t:KasT α),Pw lt n t (fun a=>Pw lt n (f a) G)→Pw lt n (t.bind f) G
 |.ret _,h=>h
 |.ask i j k,h=>⟨h.1,h.2.1,Pw.bind (k (lt i j)) h.2.2⟩
theorem Pw.mono{α:Type}{G G':α→Prop}(hg:∀a,G a→G' a):∀(t:KasT α),Pw lt n t G→Pw lt n t G'
 |.ret a,h=>hg a h
 |.ask i j k,h=>⟨h.1,h.2.1,Pw.mono hg (k (lt i j)) h.2.2⟩
theorem Pw.wp{α:Type}{cmp:Nat→Nat→(Bool→Shared→Prop)→Shared→Prop}{s:Shared}(hc:∀(i j:Nat) (C:Bool→Shared→Prop),i<n→j<n→C (lt i j) s→cmp i j C s){G:α→Prop}{Q:α→Shared→Prop}(hq:∀a,G a→Q a s) :
  ∀(t:KasT α),Pw lt n t G→t.kasWp cmp Q s
 |.ret a,h=>hq a h
 |.ask i j k,h=>hc i j _ h.1 h.2.1 (Pw.wp hc hq (k (lt i j)) h.2.2)
end
section
variable{n:Nat}{κ:Nat→List Int}{p:Array Nat}
noncomputable abbrev ltK(κ:Nat→List Int)(i j:Nat):Bool:=lxI (κ i) (κ j)
noncomputable abbrev gK(κ:Nat→List Int)(p:Array Nat)(k:Nat):List Int:=κ (p.getD k 0)
noncomputable abbrev PmK(n:Nat)(p:Array Nat):Prop:=p.toList.Perm (List.range n)
theorem yP{p:Array Nat}(k:Nat):p.getD k 0=(p[k]?).getD 0:=by simp
theorem uP(h:PmK n p):p.size=n:=by have:=h.length_eq;simpa using this
theorem wv(h:PmK n p)(hn:0<n)(k:Nat):p.getD k 0<n:=by
 rw[yP]
 cases q:p[k]? with
 |none=>exact hn
 |some v=>
  have hv:v∈p.toList:=by
   have q':p.toList[k]?=some v:=by rw[← q];simp
   exact List.mem_of_getElem? q'
  have:=h.mem_iff.mp hv
  simpa using this
theorem Mi(h:PmK n p){i j:Nat}(hi:i<n)(hj:j<n)(hij:i≠j):p.getD i 0≠p.getD j 0:=by
 have nd:p.toList.Nodup:=h.symm.nodup List.nodup_range
 have sz:=uP h
 have key:∀a b:Nat,a<b→b<n→p.getD a 0≠p.getD b 0:=fun a b hab hb=>by
  have ha':a<p.toList.length:=by simp[sz];lia
  have hb':b<p.toList.length:=by simp[sz];lia
  have:=pairwise_iff_getElem.mp nd a b ha' hb' hab
  rw[yP,yP]
  have ea:p[a]?=some p.toList[a]:=by rw[getElem_toList];exact Array.getElem?_eq_getElem _
  have eb:p[b]?=some p.toList[b]:=by rw[getElem_toList];exact Array.getElem?_eq_getElem _
  rw[ea,eb]
  exact this
 rcases lt_or_ge i j with z|z
 ·exact key i j z hj
 ·exact(key j i (by lia) hi).symm
noncomputable def Srt(κ:Nat→List Int)(p:Array Nat)(a:Nat):Prop:=∀i j,i<j→j<a→lxI (gK κ p i) (gK κ p j)=true
noncomputable def Dsc(κ:Nat→List Int)(p:Array Nat)(a:Nat):Prop:=∀i j,i<j→j<a→lxI (gK κ p j) (gK κ p i)=true
variable(inj:∀i j,i<n→j<n→κ i=κ j→i=j)
include inj
theorem Tb(h:PmK n p){i j:Nat}(hi:i<n)(hj:j<n)(hij:i≠j):gK κ p i≠gK κ p j:=fun e=>
 Mi h hi hj hij (inj _ _ (wv h (by lia) i) (wv h (by lia) j) e)
theorem V3(h:PmK n p){a:Nat}(hs:Srt κ p a)(h1:1≤a)(ha:a<n)(e:lxI (gK κ p a) (gK κ p (a-1))=false):Srt κ p (a+1):=fun i j hij hj=>by
 rcases lt_or_ge j a with z|z
 ·exact hs i j hij z
 ·obtain rfl:j=a:=by lia
  have l:=uV e (Tb inj h ha (by lia) (by lia))
  by_cases hi:i=j-1
  ·subst hi;exact l
  ·exact xg _ _ _ (hs i (j-1) (by lia) (by lia)) l
omit inj in
theorem Y2{a:Nat}(hs:Dsc κ p a)(h1:1≤a)(e:lxI (gK κ p a) (gK κ p (a-1))=true):Dsc κ p (a+1):=fun i j hij hj=>by
 rcases lt_or_ge j a with z|z
 ·exact hs i j hij z
 ·obtain rfl:j=a:=by lia
  by_cases hi:i=j-1
  ·subst hi;exact e
  ·exact xg _ _ _ e (hs i (j-1) (by lia) (by lia))
theorem XS(hp:PmK n p):∀(f a:Nat),1≤a→a+f≤n→Srt κ p a →
  Pw (ltK κ) n (kas_asc p f a) fun m=>a≤m∧m≤a+f∧Srt κ p m∧(m<a+f→lxI (gK κ p m) (gK κ p (m-1))=true):=by
 intro l_
 induction l_ with
 |zero=>
  rintro a h1 h2 hs
  exact⟨le_refl _,le_refl _,hs,fun z=>absurd z (lt_irrefl _)⟩
 |succ f ih_=>
  rintro a h1 h2 hs
  unfold kas_asc
  refine⟨wv hp (by lia) _,wv hp (by lia) _,?_⟩
  cases e:ltK κ (p.getD a 0) (p.getD (a-1) 0) with
  |true=>
   refine Uh ?_
   exact⟨le_refl _,by lia,hs,fun _=>e⟩
  |false=>
   refine Me ?_
   refine Pw.mono (fun m ⟨q1,q2,q3,q4⟩=>⟨by lia,by lia,q3,fun z=>q4 (by lia)⟩) _ (ih_ (a+1) (by lia) (by lia) (V3 inj hp hs h1 (by lia) e))
theorem WP(hp:PmK n p):∀(f a:Nat),1≤a→a+f≤n→Dsc κ p a →
  Pw (ltK κ) n (kas_desc f p a 0) fun r=>r.1=p∧r.2.2=0∧a≤r.2.1∧r.2.1≤a+f∧Dsc κ p r.2.1:=by
 intro l_
 induction l_ with
 |zero=>
  rintro a h1 h2 hs
  exact⟨rfl,rfl,le_refl _,le_refl _,hs⟩
 |succ f ih_=>
  rintro a h1 h2 hs
  unfold kas_desc
  refine⟨wv hp (by lia) _,wv hp (by lia) _,?_⟩
  cases e:ltK κ (p.getD a 0) (p.getD (a-1) 0) with
  |true=>
   refine Uh ?_
   rw[if_neg (by lia)]
   refine Pw.mono (fun m ⟨q1,q2,q3,q4,q5⟩=>⟨q1,q2,by lia,by lia,q5⟩) _ (ih_ (a+1) (by lia) (by lia) (Y2 hs h1 e))
  |false=>
   refine Me ?_
   refine⟨wv hp (by lia) _,wv hp (by lia) _,?_⟩
   have e2:ltK κ (p.getD (a-1) 0) (p.getD a 0)=true:=uV e (Tb inj hp (by lia) (by lia) (by lia))
   rw[e2]
   refine Uh ?_
   exact⟨rfl,rfl,le_refl _,Nat.le_add_right _ _,hs⟩
omit inj in
theorem GX(hp:PmK n p){m:Nat}(hm:m≤n)(k:Nat):gK κ (kas_rev p 0 m) k=if k<m then gK κ p (m-1-k) else gK κ p k:=by
 unfold gK
 rw[yP,show(kas_rev p 0 m)[k]?=_ from getElem?_mirror_all (by rw[uP hp];exact hm) k]
 by_cases z:k<m
 ·rw[if_pos ⟨zero_le _,z⟩,if_pos z,← yP,zero_add]
 ·rw[if_neg (fun y=>z y.2),if_neg z,← yP]
omit inj in
theorem Ul(hp:PmK n p)(i j:Nat):PmK n (kas_rev p i j):=(Array.perm_iff_toList_perm.mp (mirror_perm p i j ((j-i) / 2))).trans hp
omit inj in
theorem JQ(hp:PmK n p){m:Nat}(hm:m≤n)(hd:Dsc κ p m):Srt κ (kas_rev p 0 m) m:=fun i j hij hj=>by
 rw[GX hp hm,GX hp hm,if_pos (by lia),if_pos hj]
 exact hd _ _ (by lia) (by lia)
theorem VZ(hp:PmK n p){m:Nat}(h1:1≤m)(hm:m≤n)(hd:Dsc κ p m):Pw (ltK κ) n (kas_tail3 m n p) fun r=>PmK n r.2∧1≤r.1∧r.1≤n∧Srt κ r.2 r.1:=by
 unfold kas_tail3
 refine Pw.bind _ (Pw.mono (fun m' z_=>?_) _ (XS inj (Ul hp 0 m) (n-m) m h1 (by lia) (JQ hp hm hd)))
 obtain⟨q1,q2,q3,q4⟩:=z_
 exact⟨Ul hp 0 m,by lia,by lia,q3⟩
theorem JB(hp:PmK n p)(hn:2≤n):Pw (ltK κ) n (kas_count n p) fun r=>PmK n r.2∧1≤r.1∧r.1≤n∧Srt κ r.2 r.1:=by
 unfold kas_count
 refine Pw.bind _ (Pw.mono (fun m z_=>?_) _ (XS inj hp (n-1) 1 (le_refl _) (by lia) fun i j hij hj=>by lia))
 obtain⟨q1,q2,q3,q4⟩:=z_
 by_cases e:m=n
 ·rw[if_pos (by simpa using e)]
  exact⟨hp,by lia,by lia,q3⟩
 ·rw[if_neg (by simpa using e)]
  have l:=q4 (by lia)
  by_cases z:m > 1
  ·rw[if_pos z]
   refine⟨wv hp (by lia) _,wv hp (by lia) _,?_⟩
   have:ltK κ (p.getD 0 0) (p.getD (m-1) 0)=true:=q3 0 (m-1) (by lia) (by lia)
   rw[this]
   refine Uh ?_
   exact⟨hp,by lia,by lia,q3⟩
  ·rw[if_neg z]
   obtain rfl:m=1:=by lia
   unfold kas_descPart
   have d1:Dsc κ p 1:=fun i j hij hj=>by lia
   refine Pw.bind _ (Pw.mono (fun r z_=>?_) _ (WP inj hp (n-(1+1)) (1+1) (by lia) (by lia) (Y2 d1 (le_refl _) l)))
   obtain⟨r1,r2,r3,r4,r5⟩:=z_
   rw[if_neg (by lia),r1]
   exact VZ inj hp (by lia) (by lia) r5
theorem ja(hp:PmK n p){k:Nat}(hk:k<n)(hs:Srt κ p k):∀(f l r:Nat),l≤r→r≤k→r-l≤f→(∀i,i<l→lxI (gK κ p i) (gK κ p k)=true)→(∀i,r≤i→i<k→lxI (gK κ p k) (gK κ p i)=true) →
  Pw (ltK κ) n (kas_place p k f l r) fun m=>m≤k∧(∀i,i<m→lxI (gK κ p i) (gK κ p k)=true)∧(∀i,m≤i→i<k→lxI (gK κ p k) (gK κ p i)=true):=by
 intro l_
 induction l_ with
 |zero=>
  rintro l r h1 h2 h3 h4 h5
  obtain rfl:l=r:=by lia
  exact⟨h2,h4,h5⟩
 |succ f ih_=>
  rintro l r h1 h2 h3 h4 h5
  unfold kas_place
  by_cases z:l ≥ r
  ·rw[if_pos z]
   obtain rfl:l=r:=by lia
   exact⟨h2,h4,h5⟩
  ·rw[if_neg z]
   refine⟨wv hp (by lia) _,wv hp (by lia) _,?_⟩
   cases e:ltK κ (p.getD k 0) (p.getD ((l+r) / 2) 0) with
   |true=>
    refine Uh ?_
    refine ih_ l ((l+r) / 2) (by lia) (by lia) (by lia) h4 fun i hi hik=>?_
    by_cases q:i=(l+r) / 2
    ·subst q;exact e
    ·exact xg _ _ _ e (hs _ i (by lia) hik)
   |false=>
    refine Me ?_
    refine ih_ ((l+r) / 2+1) r (by lia) (by lia) (by lia) (fun i hi=>?_) h5
    have e2:=uV e (Tb inj hp hk (by lia) (by lia))
    by_cases q:i=(l+r) / 2
    ·subst q;exact e2
    ·exact xg _ _ _ (hs i _ (by lia) (by lia)) e2
omit inj in
theorem GY(hp:PmK n p){k l:Nat}(hk:k<n)(hl:l≤k)(i:Nat):gK κ (bubble p k (k-l)) i=if i=l then gK κ p k else if l<i∧i≤k then gK κ p (i-1) else gK κ p i:=by
 unfold gK
 rw[yP,getElem?_bubble (by rw[uP hp];exact hk) (k-l) (by lia) i,show k-(k-l)=l by lia]
 split
 ·rw[← yP]
 ·split
  ·rw[← yP]
  ·rw[← yP]
theorem JF:∀(f:Nat) (p:Array Nat) (k:Nat),PmK n p→k+f=n→Srt κ p k→Pw (ltK κ) n (kas_bin f p k) fun q=>PmK n q∧Srt κ q n:=by
 intro l_
 induction l_ with
 |zero=>
  rintro p k hp e hs
  obtain rfl:k=n:=by lia
  exact⟨hp,hs⟩
 |succ f ih_=>
  rintro p k hp e hs
  unfold kas_bin
  refine Pw.bind _ (Pw.mono (fun l z_=>?_) _ (ja inj hp (by lia) hs k 0 k (zero_le _) (le_refl _) (by lia) (fun i hi=>by lia) (fun i hi hik=>by lia)))
  obtain⟨q1,q2,q3⟩:=z_
  refine ih_ _ (k+1) ((Array.perm_iff_toList_perm.mp (bubble_perm p k (k-l))).trans hp) (by lia) fun i j hij hj=>?_
  rw[GY hp (by lia) q1,GY hp (by lia) q1]
  by_cases a1:i=l
  ·rw[if_pos a1,if_neg (by lia),if_pos (by lia)]
   exact q3 _ (by lia) (by lia)
  ·rw[if_neg a1]
   by_cases a2:l<i∧i≤k
   ·rw[if_pos a2,if_neg (by lia),if_pos (by lia)]
    exact hs _ _ (by lia) (by lia)
   ·rw[if_neg a2]
    by_cases b1:j=l
    ·rw[if_pos b1];exact q2 _ (by lia)
    ·rw[if_neg b1]
     by_cases b2:l<j∧j≤k
     ·rw[if_pos b2]
      by_cases c:i=j-1
      ·lia
      ·exact hs _ _ (by lia) (by lia)
     ·rw[if_neg b2];exact hs _ _ hij (by lia)
theorem JT(hn:2≤n):Pw (ltK κ) n (kas_sort n) fun q=>PmK n q∧Srt κ q n:=by
 unfold kas_sort
 refine Pw.bind _ (Pw.mono (fun r z_=>?_) _ (JB inj (p:=List.toArray (List.range n)) (by show(List.toArray (List.range n)).toList.Perm _;simp) hn))
 obtain⟨q1,q2,q3,q4⟩:=z_
 by_cases z:r.1<n
 ·rw[if_pos z,Nat.max_eq_left q2]
  exact JF inj _ _ _ q1 (by lia) q4
 ·rw[if_neg z]
  obtain e:r.1=n:=by lia
  rw[e] at q4
  exact⟨q1,q4⟩
end
noncomputable def jv{α:Type}(x:List Int×α):List (List Int×α)→List (List Int×α)
 |[]=>[x]
 |y::r=>if lxI x.1 y.1=true then x::y::r else y::jv x r
noncomputable def yZ{α:Type}:List (List Int×α)→List (List Int×α)
 |[]=>[]
 |x::r=>jv x (yZ r)
theorem um{α:Type}(x:List Int×α):∀l,(jv x l).Perm (x::l):=by
 intro l_
 induction l_ with
 |nil=>
  exact List.Perm.refl _
 |cons y r ih_=>
  unfold jv
  split
  ·exact List.Perm.refl _
  ·exact((ih_).cons y).trans (List.Perm.swap x y r)
theorem xD{α:Type}:∀l:List (List Int×α),(yZ l).Perm l:=by
 intro l_
 induction l_ with
 |nil=>
  exact List.Perm.refl _
 |cons x r ih_=>
  exact(um x _).trans ((ih_).cons x)
theorem YQ{α:Type}(x:List Int×α):∀l:List (List Int×α),l.Pairwise (fun a b=>lxI a.1 b.1=true)→(∀y∈l,y.1≠x.1)→(jv x l).Pairwise fun a b=>lxI a.1 b.1=true:=by
 intro l_
 induction l_ with
 |nil=>
  rintro _ _
  unfold jv;simp
 |cons y r ih_=>
  rintro h hd
  unfold jv
  obtain⟨h1,h2⟩:=pairwise_cons.mp h
  split
  ·rename_i z
   refine pairwise_cons.mpr ⟨fun a ha=>?_,h⟩
   rcases mem_cons.mp ha with rfl|ha
   ·exact z
   ·exact xg _ _ _ z (h1 a ha)
  ·rename_i z
   have z':lxI y.1 x.1=true:=uV (by simpa using z) (hd y mem_cons_self).symm
   refine pairwise_cons.mpr ⟨fun a ha=>?_,ih_ h2 fun a ha=>hd a (mem_cons_of_mem _ ha)⟩
   rcases mem_cons.mp ((um x r).mem_iff.mp ha) with rfl|ha
   ·exact z'
   ·exact h1 a ha
theorem v8{α:Type}:∀l:List (List Int×α),(l.map (·.1)).Nodup→(yZ l).Pairwise fun a b=>lxI a.1 b.1=true:=by
 intro l_
 induction l_ with
 |nil=>
  rintro _
  unfold yZ;exact List.Pairwise.nil
 |cons x r ih_=>
  rintro h
  unfold yZ
  rw[map_cons,nodup_cons] at h
  refine YQ x _ (ih_ h.2) fun y hy e=>h.1 ?_
  rw[← e]
  exact mem_map.mpr ⟨y,(xD r).mem_iff.mp hy,rfl⟩
theorem j8{α:Type}{r:α→α→Prop}(as:∀a b,r a b→r b a→False):∀{l m:List α},l.Perm m→l.Pairwise r→m.Pairwise r→l=m
 |[],m,p,_,_=>(List.Perm.nil_eq p)
 |a::l,[],p,_,_=>by have:=p.length_eq;simp at this
 |a::l,b::m,p,h1,h2=>by
  obtain⟨x1,x2⟩:=pairwise_cons.mp h1
  obtain⟨y1,y2⟩:=pairwise_cons.mp h2
  by_cases e:a=b
  ·subst e
   rw[j8 as ((List.perm_cons a).mp p) x2 y2]
  ·have ha:a∈b::m:=p.mem_iff.mp mem_cons_self
   have hb:b∈a::l:=p.mem_iff.mpr mem_cons_self
   rcases mem_cons.mp ha with z|z
   ·exact absurd z e
   ·rcases mem_cons.mp hb with w|w
    ·exact absurd w.symm e
    ·exact(as a b (x1 b w) (y1 a z)).elim
theorem Xg{α:Type}{l m:List (List Int×α)}(p:l.Perm m)(h:l.Pairwise fun a b=>lxI a.1 b.1=true)(nd:(m.map (·.1)).Nodup):l=yZ m:=
 j8 (fun a b x y=>by rw[Zd x] at y;cases y) (p.trans (xD m).symm) h (v8 m nd)
theorem V4{α:Type}{ks:List (List Int)}{ds:List α}{q:Array Nat}{d:α}(hl:ks.length=ds.length)(nd:ks.Nodup)(hp:q.toList.Perm (List.range ds.length))(hs:Srt (fun i=>ks.getD i []) q ds.length) :
  q.toList.map (fun i=>ds.getD i d)=(yZ (ks.zip ds)).map (·.2):=by
 have hz:(ks.zip ds).map (·.1)=ks:=List.map_fst_zip (by lia)
 have e0:(List.range ds.length).map (fun i=>(ks.getD i [],ds.getD i d))=ks.zip ds:=by
  apply ext_getElem
  ·simp[hl]
  ·intro i h1 h2
   have a1:i<ds.length:=by simpa using h1
   have a2:i<ks.length:=by lia
   simp[a1,a2]
 have key:q.toList.map (fun i=>(ks.getD i [],ds.getD i d))=yZ (ks.zip ds):=by
  refine Xg (by rw[← e0];exact hp.map _) ?_ (by rw[hz];exact nd)
  rw[List.pairwise_map,pairwise_iff_getElem]
  intro i j hi hj hij
  have sz:q.size=ds.length:=uP hp
  have:=hs i j hij (by simpa[sz] using hj)
  unfold gK at this
  rw[yP,yP] at this
  have ea:q[i]?=some q.toList[i]:=by rw[getElem_toList];exact Array.getElem?_eq_getElem _
  have eb:q[j]?=some q.toList[j]:=by rw[getElem_toList];exact Array.getElem?_eq_getElem _
  rw[ea,eb] at this
  exact this
 rw[← key,map_map]
 rfl
open PySem.W
section
variable{prog:Program}{w:World}{A:Around}{E:Value→Shared→Prop}{s:Shared}
end
section
variable[Tabs]{X:Cx}{pins:List (Addr×Obj)}{σ:St}{F H:Hp}{s:Shared}
theorem Reps.pick{K:Frag}{ds:List D}{vs:List V}(r:Reps K F ds vs):∀(q:List Nat),(∀i∈q,i<ds.length)→Reps K F (q.map fun i=>ds.getD i .non) (q.map fun i=>vs.getD i .non):=by
 intro l_
 induction l_ with
 |nil=>
  rintro _
  exact Reps.nil
 |cons i q ih_=>
  rintro h
  have hi:=h i mem_cons_self
  obtain⟨v,e1,e2⟩:=r.get (i:=i) (getElem?_eq_getElem hi)
  have z1:ds.getD i .non=ds[i]:=by simp[hi]
  have z2:vs.getD i .non=v:=by simp[e1]
  rw[map_cons,map_cons,z1,z2]
  exact Reps.cons e2 (ih_ fun j hj=>h j (mem_cons_of_mem _ hj))
theorem jX{vs:List V}{us:List Value}(r:Vals vs us):∀(q:List Nat),(∀i∈q,i<vs.length)→Vals (q.map fun i=>vs.getD i .non) (q.map fun i=>us.getD i .none):=by
 intro l_
 induction l_ with
 |nil=>
  rintro _
  exact .nil
 |cons i q ih_=>
  rintro h
  have hi:=h i mem_cons_self
  obtain⟨u,e1,e2⟩:=r.get (i:=i) (getElem?_eq_getElem hi)
  have z1:vs.getD i .non=vs[i]:=by simp[hi]
  have z2:us.getD i .none=u:=by simp[e1]
  rw[map_cons,map_cons,z1,z2]
  exact .cons e2 (ih_ fun j hj=>h j (mem_cons_of_mem _ hj))
end
open PySem.W
section
variable{X:Cx}{pins:List (Addr×Obj)}{σ:St}{F H:Hp}{τ:DS}{s:Shared}{Q:VK}{E:Value→Shared→Prop}
theorem Inv.settle(I:Inv X (pins++[p]) σ H s){D:Addr}{n:Nat}{ys:List V}{ws:List Value}{g:Array Value→Array Value}(hp:p=(D,seqObj "list" #[] n))(hg:g #[]=ws.toArray)(r:Vals ys ws)(hz:ys.length≤sizeLine)
  (h0:X.s₀.heap.objs.size≤D) (hc:∀x c,X.env.cells.lookup x=some c→c≠D) (hn:∀q∈X.pn++pins,q.1≠D):Inv X pins σ (upd H D (.lst ys)) { s with heap:=s.heap.update D (Obj.mapSeq g) }:=by
 subst hp
 obtain⟨e,nD,neL,nf,_⟩:=I.pin (D,seqObj "list" #[] n) (by simp)
 have J:Inv X pins σ H s:=I.pins_of fun q hq=>I.pin q (mem_append_right _ (List.mem_append_left _ hq))
 have h1:=get?_update_seq e g
 rw[hg] at h1
 have kp:∀b u,b≠D→s.heap.get? b=some u→(s.heap.update D (Obj.mapSeq g)).get? b=some u:=fun b u hb q=>by rw[Heap.get?_update_ne _ _ _ _ hb];exact q
 refine J.step (g':=s.gens) (d':=s.drawn) (t':=s.toks) (ch:=[D]) (fun b hb=>?_) (fun b o _ _ hb q _=>kp b o (by simpa using hb) q) (fun b o _ _ hb q _=>⟨o.slots,kp b o (by simpa using hb) q⟩) (fun b o hb _ q=>by rw[zg (by simpa using hb)];exact q)
  (fun b o hb q=>⟨o,kp b o (by simpa using hb) q⟩) (fun b xs q=>by rw[zg (zt q nD)];exact q) (fun b o u q=>by rw[zg (zt q nD)];exact q) (fun b ps q=>⟨#[],by rw[zg (zt q nD),q];simp⟩) (fun m hm=>?_) ?_ J.bare
 ·have:b=D:=by simpa using hb
  subst this
  exact⟨.inr h0,neL,hc,hn⟩
 ·obtain⟨o,es,ep,ho,r'⟩:=hm
  exact⟨o,es,ep,kp _ o (Ne.symm neL) ho,r'⟩
 ·intro b u q
  by_cases hb:b=D
  ·subst hb
   rw[zk] at q;cases q
   exact⟨hz,ws,_,r,h1⟩
  ·rw[zg hb] at q
   refine(J.hok b u q).stay (fun c v hc' q'=>kp c v ?_ q') (fun c q'=>by rw[zg (zt q' nD)];exact q') fun c xs q'=>by rw[zg (zt q' nD)];exact q'
   rcases hc' with z|z
   ·rw[z];exact hb
   ·exact zt z nD
theorem Xf:∀{kz:List (List Int)} {ds:List D},kz.length=ds.length→ds.length<2→(yZ (kz.zip ds)).map (·.2)=ds
 |[],[],_,_=>rfl
 |[a],[b],_,_=>rfl
 |[],_::_,h,_=>by simp at h
 |[_],[],h,_=>by simp at h
 |[_],_::_::_,h,_=>by simp at h
 |_::_::_,ds,h,h2=>by simp at h;lia
end
open PySem.W
section
variable{X:Cx}{pins:List (Addr×Obj)}{σ:St}{F H:Hp}{τ:DS}{s:Shared}{Q:VK}{E:Value→Shared→Prop}
end
open PySem.W
section
variable{X:Cx}{scope:Scope}{N':List Str}{pins:List (Addr×Obj)}{σ σ':St}{F H:Hp}{τ:DS}{s:Shared}
end
open PySem.W
section
variable{X:Cx}{scope:Scope}{pins:List (Addr×Obj)}{σ:St}{F H:Hp}{τ:DS}{s:Shared}
end
section
variable{prog:Program}{w:World}{A:Around}{R:Result→Shared→Prop}{E:Value→Shared→Prop}{I S:Addr}{fp wr:List Addr}{n:Nat}{P:Nat→Value→Prop}{St:Nat→Heap→Prop}{kw:List (Str×Value)}
end
variable[Tabs]
section
variable{X:Cx}{pos pp kp:Pos}{e e2:Expr}{fe f2:FE}
end
section
variable{K:Frag}{B Z F H:Hp}{τ:DS}{σ:St}
end
section
variable{X:Cx}{pos:Pos}{e tg:Expr}{st:Stmt}{ss:List Stmt}{fe:FE}{fs:FA}{f:FS}
noncomputable def scal:D→Bool
 |.non=>true
 |.bl _=>true
 |.int _=>true
 |.str _=>true
 |_=>false
end
open PySem.W
noncomputable def ub(a:Addr)(e1:Nat)(st:SortSt):Sem PySem.Fin:=do
 let srt:=(arrOf st).map (·.2)
 let touched:=(← seqEpoch a) != e1
 Builtin.List.listUpdate (.ref a) (fun _=>srt)
 if let some e:=failedOf st then rule "list.sort.comparison-raised"; (throw e)
 if touched then rule "list.sort.modified"; (raiseError "ValueError" "list modified during sort")
 ret .none
section
variable{X:Cx}{pins:List (Addr×Obj)}{σ:St}{F H:Hp}{τ:DS}{s:Shared}{Q:VK}{E:Value→Shared→Prop}
end
open PySem.W
section
variable{P:Program}{w:World}{K:Frag}{mg:Str→Option Value}{base:Heap}
end
section
variable{X:Cx}{pos:Pos}{e a b:Expr}{es:List Expr}{fe fa fb:FE}{fs:FA}
end
noncomputable abbrev Fs:=List (Str×D)
noncomputable def ua(f:Str)(d:D):Fs→Fs
 |[]=>[(f,d)]
 | (g,x)::r=>if g=f then (g,d)::r else (g,x)::ua f d r
noncomputable def xM(f:Str):Fs→Option D
 |[]=>none
 | (g,x)::r=>if f=g then some x else xM f r
theorem Flds.look{K:Frag}{F H:Hp}{c f:Str}:∀{fs:Fs} {vs:List (Str×V)},Flds K F H c fs vs→match xM f fs with
  |some d=>∃v,vs.lookup f=some v∧uM K F H c f d v
  |none=>vs.lookup f=none
 |[],[],_=>rfl
 | (g,d)::r,(g',v)::s,q=>by
  obtain⟨rfl,q2,q3⟩:=q
  have ih:=Flds.look (f:=f) q3
  unfold xM
  by_cases h:f=g
  ·have hb:(f==g)=true:=beq_iff_eq.mpr h
   rw[if_pos h]
   subst h
   exact⟨v,by simp only[List.lookup,hb],q2⟩
  ·have hb:(f==g)=false:=beq_eq_false_iff_ne.mpr h
   rw[if_neg h]
   have e:List.lookup f ((g,v)::s)=List.lookup f s:=by simp only[List.lookup,hb]
   rw[e];exact ih
 |[],_::_,q=>q.elim
 |_::_,[],q=>q.elim
theorem Flds.length{K:Frag}{F H:Hp}{c:Str}:∀{fs:Fs} {vs:List (Str×V)},Flds K F H c fs vs→fs.length=vs.length
 |[],[],_=>rfl
 |_::r,_::s,q=>by rw[length_cons,length_cons,Flds.length q.2.2]
 |[],_::_,q=>q.elim
 |_::_,[],q=>q.elim
theorem Flds.put{K:Frag}{F H:Hp}{c f:Str}{d:D}{v:V}(r:uM K F H c f d v):∀{fs:Fs} {vs:List (Str×V)},Flds K F H c fs vs→Flds K F H c (ua f d fs) (xa f v vs)
 |[],[],_=>⟨rfl,r,trivial⟩
 | (g,x)::t,(g',y)::s,q=>by
  obtain⟨rfl,q2,q3⟩:=q
  have ih:=Flds.put (f:=f) r q3
  unfold ua xa
  by_cases h:g=f
  ·rw[if_pos h,if_pos h];subst h;exact⟨rfl,r,q3⟩
  ·rw[if_neg h,if_neg h];exact⟨rfl,q2,ih⟩
 |[],_::_,q=>q.elim
 |_::_,[],q=>q.elim
theorem ownL_cons{c f:Str}{v:V}{r:List (Str×V)}{l:Addr}:l∈z7 c ((f,v)::r)↔(Tabs.own c f=true∧v=.ref l)∨l∈z7 c r:=by
 show l∈(if Tabs.own c f=true then (match v with
  |.ref l=>l::z7 c r
  |_=>z7 c r) else z7 c r)↔_
 by_cases z:Tabs.own c f=true
 ·rw[if_pos z]
  cases v <;> simp[z]
  rename_i a
  constructor
  ·rintro (h|h)
   ·exact .inl h.symm
   ·exact .inr h
  ·rintro (h|h)
   ·exact .inl h.symm
   ·exact .inr h
 ·rw[if_neg z];simp[z]
theorem jh{c f:Str}{l p:Addr}:∀{vs:List (Str×V)},l∈z7 c (xa f (.ref p) vs)→l=p∨l∈z7 c vs
 |[],h=>by
  rcases ownL_cons.mp h with ⟨_,z⟩|z
  ·cases z;exact .inl rfl
  ·cases z
 | (g,x)::r,h=>by
  rw[show xa f (.ref p) ((g,x)::r)=(if g=f then (g,.ref p)::r else (g,x)::xa f (.ref p) r) from rfl] at h
  by_cases z:g=f
  ·rw[if_pos z] at h
   rcases ownL_cons.mp h with ⟨_,e⟩|e
   ·cases e;exact .inl rfl
   ·exact .inr (ownL_cons.mpr (.inr e))
  ·rw[if_neg z] at h
   rcases ownL_cons.mp h with e|e
   ·exact .inr (ownL_cons.mpr (.inl e))
   ·rcases jh e with e|e
    ·exact .inl e
    ·exact .inr (ownL_cons.mpr (.inr e))
theorem ownL_nd{c f:Str}{v:V}{r:List (Str×V)}:(z7 c ((f,v)::r)).Nodup↔(∀l,Tabs.own c f=true→v=.ref l→l∉z7 c r)∧(z7 c r).Nodup:=by
 show(if Tabs.own c f=true then (match v with
  |.ref l=>l::z7 c r
  |_=>z7 c r) else z7 c r).Nodup↔_
 by_cases z:Tabs.own c f=true
 ·rw[if_pos z]
  cases v <;> simp[z]
 ·rw[if_neg z];simp[z]
theorem uy{c f:Str}{p:Addr}:∀{vs:List (Str×V)},(z7 c vs).Nodup→p∉z7 c vs→(z7 c (xa f (.ref p) vs)).Nodup
 |[],_,_=>ownL_nd.mpr ⟨fun _ _ _ h=>(by cases h),(show([]:List Addr).Nodup from List.nodup_nil)⟩
 | (g,x)::r,h,hp=>by
  rw[show xa f (.ref p) ((g,x)::r)=(if g=f then (g,.ref p)::r else (g,x)::xa f (.ref p) r) from rfl]
  obtain⟨h1,h2⟩:=ownL_nd.mp h
  have hp2:p∉z7 c r:=fun z=>hp (ownL_cons.mpr (.inr z))
  by_cases z:g=f
  ·rw[if_pos z]
   exact ownL_nd.mpr ⟨fun l _ e=>by cases e;exact hp2,h2⟩
  ·rw[if_neg z]
   refine ownL_nd.mpr ⟨fun l e1 e2 hm=>?_,uy h2 hp2⟩
   rcases jh hm with e|e
   ·subst e;exact hp (ownL_cons.mpr (.inl ⟨e1,e2⟩))
   ·exact h1 l e1 e2 e
theorem wO{c f:Str}{l:Addr}(ho:Tabs.own c f=true):∀{s:List (Str×V)},s.lookup f=some (.ref l)→l∈z7 c s
 |[],z=>by cases z
 | (g,w)::s,z=>by
  by_cases h:f=g
  ·subst h
   have:w=.ref l:=by simpa[List.lookup] using z
   exact ownL_cons.mpr (.inl ⟨ho,this⟩)
  ·have hb:(f==g)=false:=beq_eq_false_iff_ne.mpr h
   exact ownL_cons.mpr (.inr (wO ho (by simpa[List.lookup,hb] using z)))
theorem Flds.updL{K:Frag}{F H:Hp}{c f:Str}{l:Addr}{ds:List D}{ws:List V}(ho:Tabs.own c f=true)(r:Reps K F ds ws):∀{fs:Fs} {vs:List (Str×V)},Flds K F H c fs vs→(z7 c vs).Nodup→vs.lookup f=some (.ref l)→Flds K F (upd H l (.lst ws)) c (ua f (.lst ds) fs) vs
 |[],[],_,_,e=>by cases e
 | (g,x)::t,(g',y)::s,q,nd,e=>by
  obtain⟨rfl,q2,q3⟩:=q
  obtain⟨n1,n2⟩:=ownL_nd.mp nd
  unfold ua
  by_cases h:g=f
  ·subst h
   rw[if_pos rfl]
   have:y=.ref l:=by simpa[List.lookup] using e
   subst this
   unfold uM at q2
   rw[if_pos ho] at q2
   obtain⟨ds0,l',ws0,e1,e2,e3,e4,e5⟩:=q2
   cases e2
   refine⟨rfl,?_,q3.keep (Same.refl F) fun l2 ws2 hl e6 e7=>⟨?_,e7⟩⟩
   ·unfold uM;rw[if_pos ho];exact⟨ds,l,ws,rfl,rfl,zk,e4,r⟩
   ·have:l2≠l:=fun z=>by subst z;exact n1 l2 ho rfl hl
    rw[zg this];exact e6
  ·rw[if_neg h]
   have hb:(f==g)=false:=beq_eq_false_iff_ne.mpr fun z=>h z.symm
   have e':s.lookup f=some (.ref l):=by simpa[List.lookup,hb] using e
   refine⟨rfl,?_,Flds.updL ho r q3 n2 e'⟩
   have hin:l∈z7 c s:=wO ho e'
   unfold uM at q2 ⊢
   by_cases z:Tabs.own c g=true
   ·rw[if_pos z] at q2 ⊢
    obtain⟨ds0,l',ws0,e1,e2,e3,e4,e5⟩:=q2
    have:l'≠l:=fun y=>by subst y;exact n1 l' z e2 hin
    exact⟨ds0,l',ws0,e1,e2,by rw[zg this];exact e3,e4,e5⟩
   ·rw[if_neg z] at q2 ⊢;exact q2
 |[],_::_,q,_,_=>q.elim
 |_::_,[],q,_,_=>q.elim
noncomputable def jQ(τ:DS)(i:Nat)(c:Str):Rs Fs:=match τ[i]? with
 | some (some (.obj _ c' fs))=>if c'=c then .ok fs else .no
 | some (some (.obr c' fs))=>if c'=c then .ok fs else .no
 |_=>.no
noncomputable def vM(τ:DS)(i:Nat)(c:Str):Rs (Nat×Fs):=match τ[i]? with
 | some (some (.obj n c' fs))=>if c'=c then .ok (n,fs) else .no
 |_=>.no
theorem ZT{X:Cx}{τ:DS}{i:Nat}{c:Str}{P:Nat×Fs→Prop}(h:Ok X (vM τ i c) P):∃n fs,τ[i]?=some (some (.obj n c fs))∧P (n,fs):=by
 unfold vM at h
 split at h
 ·rename_i n c' fs e
  by_cases z:c'=c
  ·subst z;rw[if_pos rfl] at h;exact⟨n,fs,e,h⟩
  ·rw[if_neg z] at h;exact h.elim
 ·exact h.elim
theorem Wr{X:Cx}{F H:Hp}{τ:DS}{σ:St}{i:Nat}{c:Str}{P:Fs→Prop}(R:RV X.K F τ σ H)(h:Ok X (jQ τ i c) P) :
  ∃fs a C dx vs,σ[i]?=some (some (.ref a))∧H a=some (.ins C dx vs)∧nsIn X.K mainGlobals c=some (some (.ref C))∧Flds X.K F H c fs vs∧P fs:=by
 unfold jQ at h
 split at h
 ·rename_i n c' fs e
  by_cases z:c'=c
  ·subst z;rw[if_pos rfl] at h
   obtain⟨a,h1,C,dx,vs,h2,h3,h4,h5,_⟩:=R.ob.at_ i n c' fs e
   exact⟨fs,a,C,dx,vs,h1,h2,h4,h5,h⟩
  ·rw[if_neg z] at h;exact h.elim
 ·rename_i c' fs e
  by_cases z:c'=c
  ·subst z;rw[if_pos rfl] at h
   obtain⟨a,C,dx,vs,h1,h2,h4,h5⟩:=R.ob.rd i c' fs e
   exact⟨fs,a,C,dx,vs,h1,h2,h4,h5,h⟩
  ·rw[if_neg z] at h;exact h.elim
 ·exact h.elim
section
variable{X:Cx}{pos:Pos}{e:Expr}{es:List Expr}{fe:FE}{fs:FA}{C:Addr}{c f x:Str}{i:Nat}
end
omit [Tabs] in
theorem U4{o:HO}{r r':Option HO}(a:Kp o r)(b:∀u:HO,r=Option.some u→Kp u r'):Kp o r':=by
 cases o <;> first|exact b _ a | (obtain⟨ps,q⟩:=a;have h2:=b (HO.tbl ps) q;exact h2)
theorem RV.objset{K:Frag}{F F' H H':Hp}{τ:DS}{σ:St}{i n:Nat}{c:Str}{fs fs':Fs}{a C dx:Addr}{vs:List (Str×V)}(R:RV K F τ σ H)(hi:τ[i]?=some (some (.obj n c fs)))(ha:σ[i]?=some (some (.ref a)))(he:H a=some (.ins C dx vs))
  (ff:Same F F') (fh:Same F' H') (tt:TbT F' H') (kp:∀b u,b≠a→b∉z7 c vs→H b=some u→Kp u (H' b)) (nwF:∀b o,F' b=some o→F b=some o∨H b=none∨b=a∨b∈z7 c vs)
  (ob:Yb K F' H' c fs' a) (nw:∀l∈Lof H' c a,l∈z7 c vs∨H l=none):RV K F' (τ.set i (some (.obj n c fs'))) σ H':=by
 have hl:i<τ.length:=(List.getElem?_eq_some_iff.mp hi).1
 have hfl:Flds K F H c fs vs:=by
  obtain⟨a',q1,C',dx',vs',q2,_,_,q5,_⟩:=R.ob.at_ i n c fs hi
  rw[ha] at q1;cases q1
  rw[he] at q2;cases q2;exact q5
 have nl:∀{b:Addr} {u:HO},H b=some u→(∀ws,u≠.lst ws)→b∉z7 c vs:=fun {b u} e m z=>by
  obtain⟨_,ws,q⟩:=hfl.own z
  rw[e] at q;cases q;exact m _ rfl
 have na:∀{b:Addr} {u:HO},H b=some u→(∀C dx vs,u≠.ins C dx vs)→b≠a:=fun {b u} e m z=>by
  subst z;rw[he] at e;cases e;exact m _ _ _ rfl
 have nf:∀{b:Addr} {u:HO},b≠a→b∉z7 c vs→H b=some u→F b=none→F' b=none:=fun {b u} h1 h2 e h3=>by
  cases q:F' b with
  |none=>rfl
  |some w=>
   rcases nwF b w q with z|z|z|z
   ·rw[h3] at z;cases z
   ·rw[e] at z;cases z
   ·exact absurd z h1
   ·exact absurd z h2
 have bk:∀{j:Nat} {s:Option Sl},(∀m c1 g,s≠some (.obj m c1 g))→(τ.set i (some (.obj n c fs')))[j]?=some s→i≠j∧τ[j]?=some s:=fun {j s} m h=>by
  by_cases e:i=j
  ·subst e;rw[getElem?_set_self hl] at h;cases h;exact absurd rfl (m _ _ _)
  ·rw[getElem?_set_ne e] at h;exact⟨e,h⟩
 have bs:∀{j:Nat} {c1:Str},i≠j→ObS (τ.set i (some (.obj n c fs')))[j]? c1→ObS τ[j]? c1:=fun {j c1} e h=>by
  rw[getElem?_set_ne e] at h;exact h
 have oth:∀{j:Nat} {c1:Str} {a':Addr},i≠j→ObS τ[j]? c1→σ[j]?=some (some (.ref a'))→a'≠a∧Lof H' c1 a'=Lof H c1 a'∧∀l∈Lof H c1 a',l≠a∧l∉z7 c vs:=fun {j c1 a'} e h ea=>by
  have n1:a'≠a:=fun z=>by subst z;exact R.ob.dis i j n c c1 fs a' e hi h ha ea
  obtain⟨a2,C',dx',vs',gs,h1,h2,h3⟩:=R.ob.get h
  rw[ea] at h1;cases h1
  refine⟨n1,?_,fun l hl2=>⟨fun z=>?_,fun z=>?_⟩⟩
  ·rw[Lof.ins h2,Lof.ins (show H' a'=some (.ins C' dx' vs') from kp a' _ n1 (nl h2 fun _ z=>nomatch z) h2)]
  ·subst z
   rw[Lof.ins h2] at hl2
   obtain⟨_,ws,q⟩:=h3.own hl2
   rw[he] at q;cases q
  ·exact R.ob.ll i j n c c1 fs a a' l e hi h ha ea (by rw[Lof.ins he];exact z) hl2
 refine⟨fh,by simp[R.len],fun j d h=>?_,fun j ds h=>?_,fun j k ds es b hjk h1 h2 h3 h4=>R.dis j k ds es b hjk (bk (fun _ _ _ z=>by cases z) h1).2 (bk (fun _ _ _ z=>by cases z) h2).2 h3 h4,tt,⟨fun j m c1 g h=>?_,fun j k m c1 c2 g1 b hjk h1 h2 h3 h4=>?_,fun j c1 g h=>?_,fun j k m c1 c2 g1 b b' l hjk h1 h2 h3 h4 h5 h6=>?_,fun j k c1 ds b l h1 h2 h3 h4 h5=>?_⟩⟩
 ·obtain⟨v,h1,h2⟩:=R.val j d (bk (fun _ _ _ z=>by cases z) h).2
  exact⟨v,h1,h2.mono ff⟩
 ·have h:=(bk (fun _ _ _ z=>by cases z) h).2
  obtain⟨b,ws,q1,q2,q3,q4⟩:=R.own j ds h
  have n1:=na q2 fun _ _ _ z=>nomatch z
  have n2:b∉z7 c vs:=fun z=>R.ob.lo i j c ds a b (.inl ⟨n,fs,hi⟩) h ha q1 (by rw[Lof.ins he];exact z)
  exact⟨b,ws,q1,kp b _ n1 n2 q2,nf n1 n2 q2 q3,q4.mono ff⟩
 ·by_cases e:i=j
  ·subst e;rw[getElem?_set_self hl] at h;cases h;exact⟨a,ha,ob⟩
  ·rw[getElem?_set_ne e] at h
   obtain⟨a',q1,C',dx',vs',q2,q3,q4,q5,q6,q7⟩:=R.ob.at_ j m c1 g h
   obtain⟨n1,_,n3⟩:=oth e (.inl ⟨m,g,h⟩) q1
   have n2:=nl q2 fun _ z=>nomatch z
   refine⟨a',q1,C',dx',vs',kp a' _ n1 n2 q2,nf n1 n2 q2 q3,q4,q5.keep ff fun l ws hl2 e3 e4=>?_,kp dx' _ (na q6 fun _ _ _ z=>nomatch z) (nl q6 fun _ z=>nomatch z) q6,q7⟩
   obtain⟨m1,m2⟩:=n3 l (by rw[Lof.ins q2];exact hl2)
   exact⟨kp l _ m1 m2 e3,nf m1 m2 e3 e4⟩
 ·by_cases e1:i=j
  ·subst e1
   have h2:=bs hjk h2
   exact R.ob.dis i k n c c2 fs b hjk hi h2 h3 h4
  ·rw[getElem?_set_ne e1] at h1
   by_cases e2:i=k
   ·subst e2
    have:b=a:=by rw[ha] at h4;cases h4;rfl
    subst this
    exact(oth e1 (.inl ⟨m,g1,h1⟩) h3).1 rfl
   ·exact R.ob.dis j k m c1 c2 g1 b hjk h1 (bs e2 h2) h3 h4
 ·obtain⟨e,h⟩:=bk (fun _ _ _ z=>by cases z) h
  obtain⟨a',C',dx',vs',q1,q2,q4,q5⟩:=R.ob.rd j c1 g h
  obtain⟨n1,_,n3⟩:=oth e (.inr ⟨g,h⟩) q1
  refine⟨a',C',dx',vs',q1,kp a' _ n1 (nl q2 fun _ z=>nomatch z) q2,q4,q5.keep ff fun l ws hl2 e3 e4=>?_⟩
  obtain⟨m1,m2⟩:=n3 l (by rw[Lof.ins q2];exact hl2)
  exact⟨kp l _ m1 m2 e3,nf m1 m2 e3 e4⟩
 ·-- own lists of two
  have self:∀{k:Nat} {c2:Str} {b':Addr},i≠k→ObS τ[k]? c2→σ[k]?=some (some (.ref b'))→l∈Lof H' c a→l∈Lof H c2 b'→False:=fun {k c2 b'} e h eb m1 m2=>by
   rcases nw l m1 with z|z
   ·exact((oth e h eb).2.2 l m2).2 z
   ·obtain⟨a2,C',dx',vs',gs,g1,g2,g3⟩:=R.ob.get h
    rw[eb] at g1;cases g1
    rw[Lof.ins g2] at m2
    obtain⟨_,ws,q⟩:=g3.own m2
    rw[z] at q;cases q
  by_cases e1:i=j
  ·subst e1
   rw[getElem?_set_self hl] at h1
   have ec:c=c1:=by cases h1;rfl
   subst ec
   have:b=a:=by rw[ha] at h3;cases h3;rfl
   subst this
   have h2:=bs hjk h2
   rw[(oth hjk h2 h4).2.1] at h6
   exact self hjk h2 h4 h5 h6
  ·rw[getElem?_set_ne e1] at h1
   rw[(oth e1 (.inl ⟨m,g1,h1⟩) h3).2.1] at h5
   by_cases e2:i=k
   ·subst e2
    have ec:c=c2:=by
     rw[getElem?_set_self hl] at h2
     rcases h2 with ⟨_,_,h2⟩|⟨_,h2⟩
     ·cases h2;rfl
     ·cases h2
    subst ec
    have:b'=a:=by rw[ha] at h4;cases h4;rfl
    subst this
    exact self e1 (.inl ⟨m,g1,h1⟩) h3 h6 h5
   ·have h2:=bs e2 h2
    rw[(oth e2 h2 h4).2.1] at h6
    exact R.ob.ll j k m c1 c2 g1 b b' l hjk h1 h2 h3 h4 h5 h6
 ·have h2:=(bk (fun _ _ _ z=>by cases z) h2).2
  by_cases e1:i=j
  ·subst e1
   have ec:c=c1:=by
    rw[getElem?_set_self hl] at h1
    rcases h1 with ⟨_,_,h1⟩|⟨_,h1⟩
    ·cases h1;rfl
    ·cases h1
   subst ec
   have:b=a:=by rw[ha] at h3;cases h3;rfl
   subst this
   rcases nw l h5 with z|z
   ·exact R.ob.lo i k c ds b l (.inl ⟨n,fs,hi⟩) h2 ha h4 (by rw[Lof.ins he];exact z)
   ·obtain⟨p,ws,q1,q2,_⟩:=R.own k ds h2
    rw[h4] at q1;cases q1
    rw[z] at q2;cases q2
  ·have h1:=bs e1 h1
   rw[(oth e1 h1 h3).2.1] at h5
   exact R.ob.lo j k c1 ds b l h1 h2 h3 h4 h5
theorem RS.objset{K:Frag}{B Z F F' H H':Hp}{τ:DS}{σ:St}{i n:Nat}{c:Str}{fs fs':Fs}{a C dx:Addr}{vs:List (Str×V)}(R:RS K B Z F τ σ H)(hi:τ[i]?=some (some (.obj n c fs)))(ha:σ[i]?=some (some (.ref a)))(he:H a=some (.ins C dx vs))
  (ff:Same F F') (fh:Same F' H') (tt:TbT F' H') (kp:∀b u,b≠a→b∉z7 c vs→H b=some u→Kp u (H' b)) (nwF:∀b o,F' b=some o→F b=some o∨H b=none∨b=a∨b∈z7 c vs)
  (ob:Yb K F' H' c fs' a) (nw:∀l∈Lof H' c a,l∈z7 c vs∨H l=none):RS K B Z F' (τ.set i (some (.obj n c fs'))) σ H':=by
 have hl:i<τ.length:=(List.getElem?_eq_some_iff.mp hi).1
 obtain⟨hB,hBl⟩:=R.oo i n c fs a hi ha
 rw[Lof.ins he] at hBl
 have rv:=R.rv.objset hi ha he ff fh tt kp nwF ob nw
 refine⟨rv,fun b o e=>?_,R.zf.trans ff,fun b o e=>?_,fun j ds b h1 h2=>?_,fun j m c1 g b h1 h2=>?_,fun a0 d0 b1 b2 j m c1 g h=>?_,fun j c1 g b h1 h2=>?_⟩
 ·have n1:b≠a:=fun z=>by subst z;rw[hB] at e;cases e
  have n2:b∉z7 c vs:=fun z=>by rw[hBl b z] at e;cases e
  exact U4 (R.bh b o e) fun u hu=>kp b u n1 n2 hu
 ·rcases nwF b o e with z|z|z|z
  ·exact R.nb b o z
  ·exact .inr (yx R.bh z)
  ·exact .inr (by rw[z];exact hB)
  ·exact .inr (hBl b z)
 ·by_cases e:i=j
  ·subst e;rw[getElem?_set_self hl] at h1;cases h1
  ·rw[getElem?_set_ne e] at h1;exact R.ob j ds b h1 h2
 ·by_cases e:i=j
  ·subst e
   rw[getElem?_set_self hl] at h1
   have ec:c=c1:=by cases h1;rfl
   subst ec
   have:b=a:=by rw[ha] at h2;cases h2;rfl
   subst this
   refine⟨hB,fun l hl=>?_⟩
   rcases nw l hl with z|z
   ·exact hBl l z
   ·exact yx R.bh z
  ·rw[getElem?_set_ne e] at h1
   obtain⟨q1,q2⟩:=R.oo j m c1 g b h1 h2
   refine⟨q1,fun l hl=>q2 l ?_⟩
   obtain⟨a',p1,C',dx',vs',p2,_⟩:=R.rv.ob.at_ j m c1 g h1
   rw[h2] at p1;cases p1
   have n1:b≠a:=fun z=>by subst z;exact R.rv.ob.dis i j n c c1 fs b e hi (.inl ⟨m,g,h1⟩) ha h2
   have n2:b∉z7 c vs:=fun z=>by
    obtain⟨a2,p1,C2,dx2,vs2,p3,_,_,p5,_⟩:=R.rv.ob.at_ i n c fs hi
    rw[ha] at p1;cases p1
    rw[he] at p3;cases p3
    obtain⟨_,ws,q⟩:=p5.own z
    rw[p2] at q;cases q
   rw[Lof.ins p2]
   rw[Lof.ins (show H' b=some (.ins C' dx' vs') from kp b _ n1 n2 p2)] at hl
   exact hl
 ·by_cases e:i=j
  ·subst e
   rw[getElem?_set_self hl] at h
   have em:n=m+1:=by cases h;rfl
   subst em
   exact R.sf a0 d0 b1 b2 i m c fs hi
  ·rw[getElem?_set_ne e] at h;exact R.sf a0 d0 b1 b2 j m c1 g h
 ·by_cases e:i=j
  ·subst e;rw[getElem?_set_self hl] at h1;cases h1
  ·rw[getElem?_set_ne e] at h1;exact R.ro j c1 g b h1 h2
omit [Tabs] in
theorem TOk.stepI{F H H':Hp}{r:Addr×Nat×Nat×Str}(t:TOk F H r)(k:∀a o,H a=some o→(∀C dx vs,o≠.ins C dx vs)→H' a=some o):TOk F H' r:=by
 refine⟨t.1,?_⟩
 rcases t.2 with e|⟨c,e,e2⟩
 ·exact .inl (k _ _ e fun _ _ _ z=>nomatch z)
 ·exact .inr ⟨c,k _ _ e (fun _ _ _ z=>nomatch z),k _ _ e2 fun _ _ _ z=>nomatch z⟩
theorem TbT.ins{F H:Hp}{a C dx:Addr}{vs vs':List (Str×V)}(t:TbT F H)(he:H a=some (.ins C dx vs)):TbT F (L2.upd H a (.ins C dx vs')):=
 ⟨fun r hr=>(t.1 r hr).stepI fun b o e n=>by
  have:b≠a:=fun z=>by subst z;rw[he] at e;cases e;exact n _ _ _ rfl
  rw[zg this];exact e,fun d b e=>by
  have e:=wD (fun _ z=>by cases z) d b e
  obtain⟨C',dx',vs'',h⟩:=t.2 d b e
  by_cases z:b=a
  ·subst z;exact⟨C,dx,vs',zk⟩
  ·exact⟨C',dx',vs'',by rw[zg z];exact h⟩⟩
section
variable{X:Cx}{pos:Pos}{e:Expr}{es:List Expr}{fe:FE}{fs:FA}{C:Addr}{c f x:Str}{i:Nat}
end
theorem RS.attN{K:Frag}{B Z F H:Hp}{τ:DS}{σ:St}{i n:Nat}{c f:Str}{fs:Fs}{a C dx p:Addr}{vs:List (Str×V)}{ds:List D}{ws:List V}(R:RS K B Z F τ σ H)(hi:τ[i]?=some (some (.obj n c fs)))(ha:σ[i]?=some (some (.ref a)))(he:H a=some (.ins C dx vs))(ho:Tabs.own c f=true)(hp:H p=none)(r:Reps K F ds ws) :
  RS K B Z F (τ.set i (some (.obj n c (ua f (.lst ds) fs)))) σ (L2.upd (L2.upd H p (.lst ws)) a (.ins C dx (xa f (.ref p) vs))):=by
 obtain⟨a',q1,C',dx',vs',q2,q3,q4,q5,q6,q7⟩:=R.rv.ob.at_ i n c fs hi
 rw[ha] at q1;cases q1
 rw[he] at q2;cases q2
 have hpa:p≠a:=fun z=>by subst z;rw[he] at hp;cases hp
 have hd:dx≠a:=fun z=>by subst z;rw[he] at q6;cases q6
 have hdp:dx≠p:=zt q6 hp
 have hFp:=zA R.rv.fh hp
 have hpl:p∉z7 c vs:=fun z=>by
  obtain⟨_,ws',q⟩:=q5.own z
  rw[hp] at q;cases q
 have he':L2.upd H p (.lst ws) a=some (.ins C dx vs):=by rw[zg (Ne.symm hpa)];exact he
 have kpp:∀{b:Addr} {u:HO},b≠a→H b=some u→L2.upd (L2.upd H p (.lst ws)) a (.ins C dx (xa f (.ref p) vs)) b=some u:=fun {b u} h1 e=>by rw[zg h1,zg (zt e hp)];exact e
 have t1:TbT F (L2.upd H p (.lst ws)):=R.rv.tt.step (fun _ _ e=>.inl e) (fun b o e _=>by rw[zg (zt e hp)];exact e) (wD fun _ z=>nomatch z)
 refine R.objset hi ha he (Same.refl F) (fun b o e=>?_) (t1.ins he') (fun b u h1 _ e=>.of (kpp h1 e)) (fun b o e=>.inl e) ⟨C,dx,xa f (.ref p) vs,zk,q3,q4,?_,kpp hd q6,uy q7 hpl⟩ fun l hl=>?_
 ·have:b≠a:=fun z=>by subst z;rw[q3] at e;cases e
  exact kpp this (R.rv.fh b o e)
 ·have k1:Flds K F (L2.upd H p (.lst ws)) c fs vs:=q5.keep (Same.refl F) fun l ws' hl e1 e2=>⟨by rw[zg (zt e1 hp)];exact e1,e2⟩
  have k2:=k1.put (f:=f) (d:=.lst ds) (v:=.ref p) (by unfold uM;rw[if_pos ho];exact⟨ds,p,ws,rfl,rfl,zk,hFp,r⟩)
  refine k2.keep (Same.refl F) fun l ws' hl e1 e2=>⟨?_,e2⟩
  have:l≠a:=fun z=>by subst z;rw[he'] at e1;cases e1
  rw[zg this];exact e1
 ·rw[Lof.ins zk] at hl
  rcases jh hl with z|z
  ·subst z;exact .inr hp
  ·exact .inl z
noncomputable def J0(i:Nat)(c f:Str)(ff:FA):FS:=fun τ=>Fl.of (ff τ) fun ds=>Fl.of (vM τ i c) fun p=>if p.2.length<1000 then .nx (τ.set i (some (.obj p.1 c (ua f (.lst ds) p.2)))) else .no
section
variable{X:Cx}{pos:Pos}{e:Expr}{es:List Expr}{fe:FE}{ff:FA}{C:Addr}{c f x:Str}{i:Nat}
theorem Qs{p1 pos':Pos}(hx:PE X (.Name x p1) (xB i))(hC:nsIn X.K mainGlobals c=some (some (.ref C)))(cl:Cls X.K C)(na:NoAttr X.K C f)(he:PDF X e ff)(ho:Tabs.own c f=true:=by rfl)
  (hs:swapsWith e (some (.Attribute (.Name x p1) f pos')) pos.line X.env=pure false:=by rfl):PDS X (.Assign [.Attribute (.Name x p1) f pos'] e pos) (J0 i c f ff):=
 PS.imp (Mg hx he hs) fun E σ H ⟨B,Z,F,τ,R,h⟩=>⟨F,τ,R.rv,h.of.imp fun ds g p ws F1 H1 x hp r=>by
  have R1:=R.ext x
  obtain⟨n,fs,h1,h2⟩:=ZT (X:=X) (Post.of g)
  obtain⟨a,q1,C',dx,vs,q2,q3,q4,q5,q6⟩:=R1.rv.ob.at_ i n c fs h1
  rw[hC] at q4
  obtain rfl:C=C':=by cases q4;rfl
  have hpa:p≠a:=fun z=>by subst z;rw[q2] at hp;cases hp
  by_cases z:fs.length<1000
  ·dsimp only at h2
   rw[if_pos z] at h2
   exact⟨_,q1,a,C,dx,vs,rfl,by rw[zg (Ne.symm hpa)];exact q2,cl,na,by rw[← q5.length];exact z,h2 σ F1 _ x.ff (R1.attN h1 q1 q2 ho hp r)⟩
  ·dsimp only at h2
   rw[if_neg z] at h2;exact h2.elim⟩
end
noncomputable def Vf(τ:DS)(i:Nat)(c f:Str):Rs (List D):=(jQ τ i c).bind fun fs=>match xM f fs with
 | some (.lst ds)=>.ok ds
 |_=>.no
theorem Wo{X:Cx}{F H:Hp}{τ:DS}{σ:St}{i:Nat}{c f:Str}{P:List D→Prop}(R:RV X.K F τ σ H)(ho:Tabs.own c f=true)(h:Ok X (Vf τ i c f) P) :
  ∃ds a C dx vs l ws,σ[i]?=some (some (.ref a))∧H a=some (.ins C dx vs)∧nsIn X.K mainGlobals c=some (some (.ref C))∧vs.lookup f=some (.ref l)∧H l=some (.lst ws)∧F l=none∧Reps X.K F ds ws∧P ds:=by
 obtain⟨fs,a,C,dx,vs,h1,h2,h3,h4,h5⟩:=Wr R h.bind
 have l:=h4.look (f:=f)
 cases q:xM f fs with
 |none=>rw[q] at h5;exact h5.elim
 |some d=>
  rw[q] at h5 l
  obtain⟨v,l1,l2⟩:=l
  unfold uM at l2
  rw[if_pos ho] at l2
  obtain⟨ds,p,ws,rfl,rfl,e3,e4,e5⟩:=l2
  exact⟨ds,a,C,dx,vs,p,ws,h1,h2,h3,l1,e3,e4,e5,h5⟩
noncomputable def omO(τ:DS)(i:Nat)(c f:Str):Rs (Nat×Fs×List D):=(vM τ i c).bind fun p=>match xM f p.2 with
 | some (.lst ds)=>.ok (p.1,p.2,ds)
 |_=>.no
structure OmW(K:Frag)(F H:Hp)(τ:DS)(σ:St)(i:Nat)(c f:Str)(P:Nat×Fs×List D→Prop)(n:Nat)(fs:Fs)(ds:List D)(a C dx:Addr)(vs:List (Str×V))(l:Addr)(ws:List V):Prop where
 b1:τ[i]?=some (some (.obj n c fs))
 b2:σ[i]?=some (some (.ref a))
 b3:H a=some (.ins C dx vs)
 b4:nsIn K mainGlobals c=some (some (.ref C))
 b5:vs.lookup f=some (.ref l)
 b6:H l=some (.lst ws)
 b7:F l=none
 b8:Reps K F ds ws
 b9:P (n,fs,ds)
theorem MI{X:Cx}{F H:Hp}{τ:DS}{σ:St}{i:Nat}{c f:Str}{P:Nat×Fs×List D→Prop}(R:RV X.K F τ σ H)(ho:Tabs.own c f=true)(h:Ok X (omO τ i c f) P) :
  ∃n fs ds a C dx vs l ws,OmW X.K F H τ σ i c f P n fs ds a C dx vs l ws:=by
 obtain⟨n,fs,h1,h2⟩:=ZT (X:=X) h.bind
 obtain⟨a,q1,C,dx,vs,q2,q3,q4,q5,q6⟩:=R.ob.at_ i n c fs h1
 have l:=q5.look (f:=f)
 dsimp only at h2
 cases q:xM f fs with
 |none=>rw[q] at h2;exact h2.elim
 |some d=>
  rw[q] at h2 l
  obtain⟨v,l1,l2⟩:=l
  unfold uM at l2
  rw[if_pos ho] at l2
  obtain⟨ds,p,ws,rfl,rfl,e3,e4,e5⟩:=l2
  exact⟨n,fs,ds,a,C,dx,vs,p,ws,h1,q1,q2,q4,l1,e3,e4,e5,h2⟩
theorem RS.attL{K:Frag}{B Z F H:Hp}{τ:DS}{σ:St}{i n:Nat}{c f:Str}{fs:Fs}{a C dx l:Addr}{vs:List (Str×V)}{ds:List D}{ws ws':List V}(R:RS K B Z F τ σ H)(hi:τ[i]?=some (some (.obj n c fs)))(ha:σ[i]?=some (some (.ref a)))(he:H a=some (.ins C dx vs))(ho:Tabs.own c f=true)(hl:vs.lookup f=some (.ref l))(hw:H l=some (.lst ws))(hF:F l=none)(r:Reps K F ds ws') :
  RS K B Z F (τ.set i (some (.obj n c (ua f (.lst ds) fs)))) σ (L2.upd H l (.lst ws')):=by
 obtain⟨a',q1,C',dx',vs',q2,q3,q4,q5,q6,q7⟩:=R.rv.ob.at_ i n c fs hi
 rw[ha] at q1;cases q1
 rw[he] at q2;cases q2
 have hin:=wO ho hl
 have hal:a≠l:=fun z=>by subst z;rw[he] at hw;cases hw
 have hdl:dx≠l:=fun z=>by subst z;rw[q6] at hw;cases hw
 have he':L2.upd H l (.lst ws') a=some (.ins C dx vs):=by rw[zg hal];exact he
 refine R.objset hi ha he (Same.refl F) (fun b o e=>?_) (R.rv.tt.step (fun _ _ e=>.inl e) (fun b o e m=>?_) (wD fun _ z=>nomatch z)) (fun b u _ h2 e=>.of ?_) (fun b o e=>.inl e) ⟨C,dx,vs,he',q3,q4,q5.updL ho r q7 hl,by rw[zg hdl];exact q6,q7⟩ fun l' hl'=>.inl (by rw[Lof.ins he'] at hl';exact hl')
 ·have:b≠l:=fun z=>by subst z;rw[hF] at e;cases e
  rw[zg this];exact R.rv.fh b o e
 ·have:b≠l:=fun z=>by subst z;rw[hw] at e;cases e;exact m _ rfl
  rw[zg this];exact e
 ·have:b≠l:=fun z=>by subst z;exact h2 hin
  rw[zg this];exact e
section
variable{X:Cx}{pos:Pos}{e:Expr}{es:List Expr}{fe:FE}{ff:FA}{C:Addr}{c f x:Str}{i:Nat}
theorem Wh{p1 p2:Pos}(hx:PE X (.Name x p1) (xB i))(hb:attributeBase (.Name x p1) f X.env (eval (.Name x p1) X.env)=eval (.Name x p1) X.env:=by rfl):PE X (.Attribute (.Name x p1) f p2) (tFld X.K (xB i) f):=Mu hx hb
noncomputable def YZ(i:Nat)(c f:Str):FE:=fun τ=>(Vf τ i c f).bind fun ds=>.ok (.int ds.length)
theorem UA{p1 p2 p:Pos}(hx:PE X (.Name x p1) (xB i))(hC:nsIn X.K mainGlobals c=some (some (.ref C)))(cl:Cls X.K C)(na:NoAttr X.K C f)(hg:Gl X "len")(hm:X.mg "len" = none)(ho:Tabs.own c f=true:=by rfl)
  (he:starEach [.Attribute (.Name x p1) f p2] X.env=[(false,eval (.Attribute (.Name x p1) f p2) X.env)]:=by rfl) (hpl:(backTo pos (starEach [] X.env)).any (·.1)=false:=by rfl):PDE X (.Call (.Name "len" p) [.Attribute (.Name x p1) f p2] [] pos) (YZ i c f):=
 PE.imp (pe_callB call_len_seq hg hm PySem.boot_len (vH (Wh hx) jg (by rw[he];rfl)) (he:=by rw[he];rfl) (hpl:=hpl)) fun σ H Q z_=>by
  obtain⟨F,τ,R,h⟩:=z_
  obtain⟨ds,a,C',dx,vs,l,ws,h1,h2,h3,h4,h5,h6,h7,h8⟩:=Wo R ho (Ok.bind h)
  obtain rfl:C=C':=by rw[hC] at h3;cases h3;rfl
  refine⟨_,h1,a,C,dx,vs,.ref l,rfl,h2,cl,na,h4,l,ws,rfl,.inl (SqL.of h5),?_⟩
  rw[← h7.length]
  exact h8 (.int ds.length) F H (Ext.refl R.fh) (by simp only[Rep])
noncomputable def X6(i:Nat)(c f:Str)(fe:FE):FS:=fun τ=>Fl.of (omO τ i c f) fun p=>Fl.of (fe τ) fun d=>if p.2.2.length<sizeLine then .nx (τ.set i (some (.obj p.1 c (ua f (.lst (p.2.2++[d])) p.2.1)))) else .no
theorem Uu{p1 p2 apos cpos:Pos}(hx:PE X (.Name x p1) (xB i))(hC:nsIn X.K mainGlobals c=some (some (.ref C)))(cl:Cls X.K C)(na:NoAttr X.K C f)(he:PDE X e fe)(ho:Tabs.own c f=true:=by rfl)
  (hfew:((backTo cpos (starEach [e] X.env)).all (fun x=>!x.1)&&(backToKw cpos (keywordEach [] X.env)).all (fun x=>x.1.isSome)
   && decide ([e].length+([]:List Keyword).length+(if ([]:List Keyword).isEmpty then 0 else 1)<30))=true:=by rfl)
  (hline:(apos.endLine==cpos.line)=true:=by rfl) (hs:starEach [e] X.env=[(false,eval e X.env)]:=by rfl) (hplain:(backTo cpos (starEach [] X.env)).any (·.1)=false:=by rfl)
  (hbase:attributeBase (.Attribute (.Name x p1) f p2) "append" X.env (eval (.Attribute (.Name x p1) f p2) X.env)=eval (.Attribute (.Name x p1) f p2) X.env:=by rfl)
  (hsw:swapsWith (.Call (.Attribute (.Attribute (.Name x p1) f p2) "append" apos) [e] [] cpos) none pos.line X.env=pure false:=by rfl) :
  PDS X (.Expr (.Call (.Attribute (.Attribute (.Name x p1) f p2) "append" apos) [e] [] cpos) pos) (X6 i c f fe):=
 PS.imp (Qd (GM PySem.F.plainAttrs_list PySem.F.slot_list_append PySem.F.type_list_append uh (Wh hx) (vH he jg (by rw[hs];rfl)) hbase hfew hline (by rw[hs];rfl) hplain) hsw) fun E σ H z_=>by
  obtain⟨B,Z,F,τ,R,h⟩:=z_
  obtain⟨n,fs,ds,a,C',dx,vs,l,ws,h0,h1,h2,h3,h4,h5,h6,h7,h8⟩:=MI R.rv ho (Post.of h)
  obtain rfl:C=C':=by rw[hC] at h3;cases h3;rfl
  refine⟨_,h1,a,C,dx,vs,.ref l,rfl,h2,cl,na,h4,.inl ⟨rfl,ws,SqL.of h5⟩,?_⟩
  refine tE.at R (Post.of h8) fun d v F1 H1 g x R1 r=>?_
  have hF1:F1 l=none:=by
   cases q:F1 l with
   |none=>rfl
   |some w=>
    rcases x.nw l w q with z|z
    ·rw[h6] at z;cases z
    ·rw[h5] at z;cases z
  by_cases z:ds.length<sizeLine
  ·dsimp only at g
   rw[if_pos z] at g
   refine⟨l,ws,v,rfl,rfl,x.hh _ _ h5,by rw[← h7.length];exact z,?_⟩
   exact g _ F1 _ x.ff (R1.attL h0 h1 (x.hh _ _ h2) ho h4 (x.hh _ _ h5) hF1 ((h7.mono x.ff).append (Reps.cons r Reps.nil)))
  ·dsimp only at g
   rw[if_neg z] at g;exact g.elim
end
structure Tz(F B F' H':Hp):Prop where
 ff:Same F F'
 hh:Hh B H'
 fh:Same F' H'
 nw:∀a o,F' a=some o→F a=some o∨B a=none
 tt:TbT F' H'
theorem RS.outO{K:Frag}{B Z F H:Hp}{τ:DS}{σ:St}(R:RS K B Z F τ σ H):Tz Z B F H:=⟨R.zf,R.bh,R.rv.fh,R.nb,R.rv.tt⟩
noncomputable def xT(H:Hp)(c:Str)(a:Addr):Hp:=fun b=>if b=a∨b∈Lof H c a then none else H b
theorem WK(H:Hp)(c:Str)(a:Addr):xT H c a a=none:=if_pos (.inl rfl)
theorem Gh{H:Hp}{c:Str}{a l:Addr}(h:l∈Lof H c a):xT H c a l=none:=if_pos (.inr h)
theorem vT{H:Hp}{c:Str}{a b:Addr}(h1:b≠a)(h2:b∉Lof H c a):xT H c a b=H b:=if_neg fun z=>z.elim h1 h2
theorem jx{H:Hp}{c:Str}{a b:Addr}{o:HO}(h:xT H c a b=some o):H b=some o:=by
 unfold xT at h
 split at h
 ·cases h
 ·exact h
theorem vh{H:Hp}{c:Str}{a b:Addr}(h:xT H c a b=none):b=a∨b∈Lof H c a∨H b=none:=by
 unfold xT at h
 split at h
 ·rename_i z;exact z.elim .inl fun z=>.inr (.inl z)
 ·exact .inr (.inr h)
noncomputable def spM(K:Frag)(c:Str)(j n:Nat)(g:Fs→List D→Rs (D×Fs)):Sp:=fun vs H Q E=>vs.length=n+1∧∃a us1 us2 ds1 ds2 fs F,vs=us1 ++ .ref a::us2∧us1.length=j∧Yb K F H c fs a∧Same F H∧TbT F H∧Reps K F ds1 us1∧Reps K F ds2 us2∧match g fs (ds1++ds2) with
 | .ok (d,fs')=>∀v F' H',Tz F (xT H c a) F' H'→Yb K F' H' c fs' a→(∀l∈Lof H' c a,l∈Lof H c a∨H l=none)→Rep K F' d v→Q v H'
 |_=>False
noncomputable def spR(K:Frag)(c:Str)(j n:Nat)(g:Fs→List D→Rs D):Sp:=fun vs H Q E=>vs.length=n+1∧∃a us1 us2 ds1 ds2 fs F C dx ws,vs=us1 ++ .ref a::us2∧us1.length=j∧H a=some (.ins C dx ws)∧nsIn K mainGlobals c=some (some (.ref C))∧Flds K F H c fs ws∧Same F H∧TbT F H∧Reps K F ds1 us1∧Reps K F ds2 us2∧match g fs (ds1++ds2) with
 |.ok d=>Ev K F H Q d
 |_=>False
theorem RS.meth{K:Frag}{B Z F H F' H':Hp}{τ:DS}{σ:St}{i n:Nat}{c:Str}{fs fs':Fs}{a:Addr}(R:RS K B Z F τ σ H)(hi:τ[i]?=some (some (.obj n c fs)))(ha:σ[i]?=some (some (.ref a)))(x:Tz F (xT H c a) F' H')(o:Yb K F' H' c fs' a)(nw:∀l∈Lof H' c a,l∈Lof H c a∨H l=none) :
  RS K B Z F' (τ.set i (some (.obj n c fs'))) σ H':=by
 obtain⟨a',q1,C,dx,vs,he,_⟩:=R.rv.ob.at_ i n c fs hi
 rw[ha] at q1;cases q1
 have hL:Lof H c a=z7 c vs:=Lof.ins he
 refine R.objset hi ha he x.ff x.fh x.tt (fun b u h1 h2 e=>x.hh b u (by rw[vT h1 (by rw[hL];exact h2)];exact e)) (fun b u e=>?_) o fun l hl=>by rw[← hL];exact nw l hl
 rcases x.nw b u e with z|z
 ·exact .inl z
 ·rcases vh z with z|z|z
  ·exact .inr (.inr (.inl z))
  ·exact .inr (.inr (.inr (by rw[← hL];exact z)))
  ·exact .inr (.inl z)
noncomputable def xY(s0:Sl)(j N:Nat)(ds:List D):DS:=(ds.take j).map (fun d=>some (.val d))++some s0::((ds.drop j).map (fun d=>some (.val d))++List.replicate (N-(ds.length+1)) none)
noncomputable def vo(s0:Sl)(ds1 ds2:List D)(N:Nat):DS:=ds1.map (fun d=>some (.val d))++some s0::(ds2.map (fun d=>some (.val d))++List.replicate (N-(ds1.length+ds2.length+1)) none)
omit [Tabs] in
theorem j3{s0:Sl}{j N:Nat}{ds1 ds2:List D}(h:ds1.length=j):xY s0 j N (ds1++ds2)=vo s0 ds1 ds2 N:=by
 unfold xY vo
 subst h
 rw[List.take_left,List.drop_left,length_append]
omit [Tabs] in
theorem jH{s0:Sl}{N:Nat}{ds1 ds2:List D}{i:Nat}{o:Sl}(h:(vo s0 ds1 ds2 N)[i]?=some (some o)):(i=ds1.length∧o=s0)∨(∃d,ds1[i]?=some d∧o=.val d)∨∃k d,i=ds1.length+1+k∧ds2[k]?=some d∧o=.val d:=by
 unfold vo at h
 by_cases h1:i<ds1.length
 ·rw[getElem?_append_left (by simpa using h1),getElem?_map] at h
  cases e:ds1[i]? with
  |none=>rw[e] at h;cases h
  |some d=>rw[e] at h;cases h;exact .inr (.inl ⟨d,rfl,rfl⟩)
 ·rw[getElem?_append_right (by simpa using h1),length_map] at h
  cases e:i-ds1.length with
  |zero=>rw[e] at h;simp at h;exact .inl ⟨by lia,h.symm⟩
  |succ k=>
   rw[e,getElem?_cons_succ] at h
   by_cases h2:k<ds2.length
   ·rw[getElem?_append_left (by simpa using h2),getElem?_map] at h
    cases e2:ds2[k]? with
    |none=>rw[e2] at h;cases h
    |some d=>rw[e2] at h;cases h;exact .inr (.inr ⟨k,d,by lia,e2,rfl⟩)
   ·rw[getElem?_append_right (by simpa using h2),getElem?_replicate] at h
    split at h <;> cases h
theorem j5{K:Frag}{F H B:Hp}{N:List Str}{ds1 ds2:List D}{us1 us2:List V}{a:Addr}{s0:Sl}(hs:XB (some s0)=true)(fh:Same F H)(tt:TbT F H)(r1:Reps K F ds1 us1)(r2:Reps K F ds2 us2)
  (h1:∀n c fs,s0=.obj n c fs→Yb K F H c fs a∧B=xT H c a) (h2:∀c fs,s0=.obr c fs→(∃C dx vs,H a=some (.ins C dx vs)∧nsIn K mainGlobals c=some (some (.ref C))∧Flds K F H c fs vs)) (hb:Hh B H) (hnb:∀b o,B b=some o→H b=some o) (h3:∀c fs,s0=.obr c fs→B=H) :
  RS K B F F (vo s0 ds1 ds2 N.length) (L2.start N (us1 ++ .ref a::us2)) H:=by
 have hl1:=r1.length
 have hl2:=r2.length
 have s1:∀{i:Nat} {v:V},us1[i]?=some v→(L2.start N (us1 ++ .ref a::us2))[i]?=some (some v):=fun {i v} q=>by
  have hi:i<us1.length:=(List.getElem?_eq_some_iff.mp q).1
  unfold L2.start
  rw[getElem?_append_left (by simp;lia),getElem?_map,getElem?_append_left hi,q];rfl
 have s2:∀{k:Nat} {v:V},us2[k]?=some v→(L2.start N (us1 ++ .ref a::us2))[us1.length+1+k]?=some (some v):=fun {k v} q=>by
  have hi:k<us2.length:=(List.getElem?_eq_some_iff.mp q).1
  unfold L2.start
  rw[getElem?_append_left (by simp;lia),getElem?_map,getElem?_append_right (by lia),show us1.length+1+k-us1.length=k+1 by lia,getElem?_cons_succ,q];rfl
 have s0':(L2.start N (us1 ++ .ref a::us2))[ds1.length]?=some (some (.ref a)):=by
  unfold L2.start
  rw[getElem?_append_left (by simp;lia),getElem?_map,getElem?_append_right (by lia),hl1];simp
 have only:∀{i:Nat} {o:Sl},XB (some o)=true→(vo s0 ds1 ds2 N.length)[i]?=some (some o)→i=ds1.length∧o=s0:=fun {i o} ho h=>by
  rcases jH h with e|⟨d,_,e⟩|⟨k,d,_,_,e⟩
  ·exact e
  ·subst e;cases ho
  ·subst e;cases ho
 have onlyS:∀{i:Nat} {c:Str},ObS (vo s0 ds1 ds2 N.length)[i]? c→i=ds1.length:=fun {i c} h=>by
  rcases h with ⟨n,fs,h⟩|⟨fs,h⟩
  ·exact(only rfl h).1
  ·exact(only rfl h).1
 have noown:∀{i:Nat} {es:List D},(vo s0 ds1 ds2 N.length)[i]?=some (some (.own es))→False:=fun {i es} h=>by
  rcases jH h with ⟨_,e⟩|⟨d,_,e⟩|⟨k,d,_,_,e⟩
  ·rw[← e] at hs;cases hs
  ·cases e
  ·cases e
 refine⟨⟨fh,?_,fun i d h=>?_,fun i es h=>(noown h).elim,fun i j es es' b _ h1=>(noown h1).elim,tt,⟨fun i n c fs h=>?_,fun i j n c c' fs b hij g1 g2 _ _=>?_,fun i c fs h=>?_,fun i j n c c' fs b b' l hij g1 g2=>?_,fun i j c ds b l _ g2=>(noown g2).elim⟩⟩,hb,Same.refl F,fun a o e=>.inl e,fun i es b g1=>(noown g1).elim,fun i n c fs b g1 g2=>?_,fun a0 dx b1 b2 i n c fs g1=>?_,fun i c fs b g1 g2=>?_⟩
 ·simp[vo,L2.start,hl1,hl2];lia
 ·rcases jH h with ⟨_,e⟩|⟨d',e1,e⟩|⟨k,d',rfl,e1,e⟩
  ·rw[← e] at hs;cases hs
  ·cases e
   obtain⟨v,q1,q2⟩:=r1.get e1
   exact⟨v,s1 q1,q2⟩
  ·cases e
   obtain⟨v,q1,q2⟩:=r2.get e1
   exact⟨v,by rw[hl1];exact s2 q1,q2⟩
 ·obtain⟨rfl,e⟩:=only rfl h
  exact⟨a,s0',(h1 n c fs e.symm).1⟩
 ·exact hij ((only rfl g1).1.trans (onlyS g2).symm)
 ·obtain⟨rfl,e⟩:=only rfl h
  obtain⟨C,dx,vs,q1,q2,q3⟩:=h2 c fs e.symm
  exact⟨a,C,dx,vs,s0',q1,q2,q3⟩
 ·exact absurd ((only rfl g1).1.trans (onlyS g2).symm) hij
 ·obtain⟨rfl,e⟩:=only rfl g1
  rw[s0'] at g2;cases g2
  rw[(h1 n c fs e.symm).2]
  exact⟨WK _ _ _,fun l hl=>Gh hl⟩
 ·obtain⟨rfl,e⟩:=only rfl g1
  obtain⟨p1,p2⟩:=h1 (n+1) c fs e.symm
  obtain⟨C,dx',vs,q2⟩:=tt.2 dx a0 (hnb _ _ b1)
  by_cases z:a0=a
  ·rw[z];exact s0'
  ·have:a0∉Lof H c a:=fun y=>by
    obtain⟨C2,dx2,vs2,o1,_,_,o4,_⟩:=p1
    rw[Lof.ins o1] at y
    obtain⟨_,ws,q⟩:=o4.own y
    rw[q2] at q;cases q
   rw[p2,vT z this,q2] at b2;cases b2
 ·obtain⟨rfl,e⟩:=only rfl g1
  rw[s0'] at g2;cases g2
  obtain⟨C,dx,vs,q1,q2,q3⟩:=h2 c fs e.symm
  rw[h3 c fs e.symm]
  exact⟨C,dx,vs,q1,fun l hl=>(q3.own hl).2⟩
noncomputable def flM(j:Nat)(c:Str):Fl→Rs (D×Fs)
 |.ro d τ=>(vM τ j c).bind fun p=>if p.1=1 then .ok (d,p.2) else .no
 |.nx τ=>(vM τ j c).bind fun p=>if p.1=1 then .ok (.non,p.2) else .no
 |_=>.no
noncomputable def Yq(N j:Nat)(c:Str)(fb:FS)(fs:Fs)(ds:List D):Rs (D×Fs):=flM j c (fb (xY (.obj 1 c fs) j N ds))
noncomputable def Xm(N j:Nat)(c:Str)(fb:FS)(fs:Fs)(ds:List D):Rs D:=uC (fb (xY (.obr c fs) j N ds))
theorem QC{τ:DS}{i n:Nat}{c:Str}{fs:Fs}(h:vM τ i c=.ok (n,fs)):τ[i]?=some (some (.obj n c fs)):=by
 unfold vM at h
 split at h
 ·rename_i m c' gs e
  by_cases z:c'=c
  ·subst z;rw[if_pos rfl] at h;cases h;exact e
  ·rw[if_neg z] at h;cases h
 ·cases h
section
variable{P:Program}{w:World}{K:Frag}{mg:Str→Option Value}{base:Heap}
theorem Jg(H:Hp)(c:Str)(a:Addr):Hh (xT H c a) H:=fun b o e=>.of (jx e)
theorem fnM{x qual c:Str}{st:Stmt}{f:Addr}{fd:FuncData}{N ps:List Str}{k n j:Nat}{fb:FS}(F:Fun K x qual st f fd)(S:zL N ps (zi st))(hn:ps.length=n+1)
  (hbody:∀(cdv:Value) (A:Around) (outer:List Env) (s:Shared) (H:Hp) (E:XK),Room k (A.deeper (envOfC qual (zi st) s.heap.objs.size f cdv)) →
   wy (ut CX0 P w K mg base N qual (zi st) f cdv A outer s H E).nox (zC st) fb):FnOk P w K mg base CX0 (k+1) f fd ps (spM K c j n (Yq N.length j c fb)):=by
 refine F.ok S (fun vs H Q E h=>by rw[hn];exact h.1) fun cdv A outer s H vs Q E hr h=>⟨_,hbody cdv A outer s H E hr,?_⟩
 obtain⟨hl,a,us1,us2,ds1,ds2,fs,Fz,rfl,hj,ob,fh,tt,r1,r2,h⟩:=h
 have hd1:ds1.length=j:=r1.length.trans hj
 have st:xY (.obj 1 c fs) j N.length (ds1++ds2)=vo (.obj 1 c fs) ds1 ds2 N.length:=j3 hd1
 refine⟨xT H c a,Fz,Fz,vo (.obj 1 c fs) ds1 ds2 N.length,j5 rfl fh tt r1 r2 (fun n' c' fs' e=>by cases e;exact⟨ob,rfl⟩) (fun c' fs' e=>by cases e) (Jg H c a) (fun b o e=>jx e) (fun c' fs' e=>by cases e),?_⟩
 obtain⟨C,dx,ws,o1,o2,o3,o4,o5,o6⟩:=ob
 have hdx:xT H c a dx=some (.own a):=by
  have n1:dx≠a:=fun z=>by subst z;rw[o1] at o5;cases o5
  have n2:dx∉Lof H c a:=fun z=>by
   rw[Lof.ins o1] at z
   obtain⟨_,ws',q⟩:=o4.own z
   rw[o5] at q;cases q
  rw[vT n1 n2];exact o5
 have fin:∀{τ:DS} {σ:St} {F' H':Hp} {fs':Fs},vM τ j c=.ok (1,fs')→RS K (xT H c a) Fz F' τ σ H'→Yb K F' H' c fs' a∧∀l∈Lof H' c a,l∈Lof H c a∨H l=none:=fun {τ σ F' H' fs'} q RR=>by
  have z:=QC q
  obtain⟨a',p1,p2⟩:=RR.rv.ob.at_ j 1 c fs' z
  have:=RR.sf a dx hdx (WK _ _ _) j 0 c fs' z
  rw[p1] at this;cases this
  refine⟨p2,fun l hl=>?_⟩
  rcases vh ((RR.oo j 1 c fs' a z p1).2 l hl) with y|y|y
  ·subst y
   obtain⟨C',dx',vs',g1,_,_,g4,_⟩:=p2
   rw[Lof.ins g1] at hl
   obtain⟨_,ws',q⟩:=g4.own hl
   rw[g1] at q;cases q
  ·exact .inl y
  ·exact .inr y
 unfold Yq at h
 rw[st] at h
 cases q:fb (vo (.obj 1 c fs) ds1 ds2 N.length) with
 |nx τ=>
  rw[q] at h
  cases z:vM τ j c with
  |ok p=>
   obtain⟨m,fs'⟩:=p
   simp only[flM,z,Rs.bind] at h
   by_cases hm:m=1
   ·subst hm
    rw[if_pos rfl] at h
    exact fun σ F' H' ff RR=>h .non F' H' RR.outO (fin z RR).1 (fin z RR).2 (by simp only[Rep])
   ·rw[if_neg hm] at h;exact h.elim
  |ex c=>simp only[flM,z,Rs.bind] at h
  |no=>simp only[flM,z,Rs.bind] at h
 |ro d τ=>
  rw[q] at h
  cases z:vM τ j c with
  |ok p=>
   obtain⟨m,fs'⟩:=p
   simp only[flM,z,Rs.bind] at h
   by_cases hm:m=1
   ·subst hm
    rw[if_pos rfl] at h
    exact fun v σ F' H' ff RR rr=>h v F' H' RR.outO (fin z RR).1 (fin z RR).2 rr
   ·rw[if_neg hm] at h;exact h.elim
  |ex c=>simp only[flM,z,Rs.bind] at h
  |no=>simp only[flM,z,Rs.bind] at h
 |rb d τ=>rw[q] at h;exact h.elim
 |rt d=>rw[q] at h;exact h.elim
 |bk τ=>rw[q] at h;exact h.elim
 |ct τ=>rw[q] at h;exact h.elim
 |ex c=>rw[q] at h;exact h.elim
 |no=>rw[q] at h;exact h.elim
 |rs c τ=>rw[q] at h;exact h.elim
theorem fnR{x qual c:Str}{st:Stmt}{f:Addr}{fd:FuncData}{N ps:List Str}{k n j:Nat}{fb:FS}(F:Fun K x qual st f fd)(S:zL N ps (zi st))(hn:ps.length=n+1)
  (hbody:∀(cdv:Value) (A:Around) (outer:List Env) (s:Shared) (H:Hp) (E:XK),Room k (A.deeper (envOfC qual (zi st) s.heap.objs.size f cdv)) →
   wy (ut CX0 P w K mg base N qual (zi st) f cdv A outer s H E).nox (zC st) fb):FnOk P w K mg base CX0 (k+1) f fd ps (spR K c j n (Xm N.length j c fb)):=by
 refine F.ok S (fun vs H Q E h=>by rw[hn];exact h.1) fun cdv A outer s H vs Q E hr h=>⟨_,hbody cdv A outer s H E hr,?_⟩
 obtain⟨hl,a,us1,us2,ds1,ds2,fs,Fz,C,dx,ws,rfl,hj,o1,o2,o3,fh,tt,r1,r2,h⟩:=h
 have hd1:ds1.length=j:=r1.length.trans hj
 have st:xY (.obr c fs) j N.length (ds1++ds2)=vo (.obr c fs) ds1 ds2 N.length:=j3 hd1
 refine⟨H,Fz,Fz,vo (.obr c fs) ds1 ds2 N.length,j5 rfl fh tt r1 r2 (fun n' c' fs' e=>by cases e) (fun c' fs' e=>by cases e;exact⟨C,dx,ws,o1,o2,o3⟩) (Hh.refl H) (fun _ _ e=>e) (fun _ _ _=>rfl),?_⟩
 unfold Xm at h
 rw[st] at h
 cases q:fb (vo (.obr c fs) ds1 ds2 N.length) with
 |nx τ=>rw[q] at h;exact fun σ F' H' ff RR=>h .non F' H' RR.out (by simp only[Rep])
 |rt d=>rw[q] at h;exact fun v F' H' x rr=>h v F' H' x rr
 |ro d τ=>rw[q] at h;exact fun v σ F' H' ff RR rr=>h v F' H' RR.out rr
 |rb d τ=>rw[q] at h;exact h.elim
 |bk τ=>rw[q] at h;exact h.elim
 |ct τ=>rw[q] at h;exact h.elim
 |ex c=>rw[q] at h;exact h.elim
 |no=>rw[q] at h;exact h.elim
 |rs c τ=>rw[q] at h;exact h.elim
end
noncomputable abbrev FOb:=DS→Rs (D×DS)
noncomputable abbrev jV:=DS→Rs (Bool×DS)
noncomputable def tOb(X:Cx)(f:FOb):TE:=fun σ H Q=>∃B Z F τ,RS X.K B Z F τ σ H∧Ok X (f τ) fun p=>∀v F' H',Same F F'→RS X.K B Z F' p.2 σ H'→Rep X.K F' p.1 v→Q v H'
noncomputable def tObT(X:Cx)(f:jV):TT:=fun σ H Q=>∃B Z F τ,RS X.K B Z F τ σ H∧Ok X (f τ) fun p=>∀F' H',Same F F'→RS X.K B Z F' p.2 σ H'→Q p.1 H'
noncomputable def PDOb(X:Cx)(e:Expr)(f:FOb):Prop:=PE X e (tOb X f)
noncomputable def Zv(X:Cx)(e:Expr)(f:jV):Prop:=PT X e (tObT X f)
noncomputable def WW(X:Cx)(e:Expr)(f:jV):Prop:=PW X e (tObT X f)
noncomputable def MetM(P:Program)(w:World)(K:Frag)(mg:Str→Option Value)(base:Heap)(c m:Str)(k n:Nat)(ps:List Str)(g:Fs→List D→Rs (D×Fs)):Prop:=
 ∃C f fd,nsIn K mainGlobals c=some (some (.ref C))∧Cls K C∧jU K C m f∧FnOk P w K mg base CX0 k f fd ps (spM K c 0 n g)∧Binds K fd ps []
noncomputable def MetR(P:Program)(w:World)(K:Frag)(mg:Str→Option Value)(base:Heap)(c m:Str)(k n:Nat)(ps:List Str)(g:Fs→List D→Rs D):Prop:=
 ∃C f fd,nsIn K mainGlobals c=some (some (.ref C))∧Cls K C∧jU K C m f∧FnOk P w K mg base CX0 k f fd ps (spR K c 0 n g)∧Binds K fd ps []
noncomputable def ClsM(P:Program)(w:World)(K:Frag)(mg:Str→Option Value)(base:Heap)(c:Str)(k n:Nat)(ps:List Str)(g:Fs→List D→Rs (D×Fs)):Prop:=
 ∃C f fd,nsIn K mainGlobals c=some (some (.ref C))∧mg c=some (.ref C)∧Mk K C f∧FnOk P w K mg base CX0 k f fd ps (spM K c 0 n g)∧Binds K fd ps []
section
variable{X:Cx}{pos:Pos}{e a b:Expr}{es rest:List Expr}{fe fb:FE}{fs:FA}{c m x:Str}{i k n:Nat}{ps:List Str}{fo:FOb}{ga gb:jV}
noncomputable def xr(i:Nat)(c m:Str)(g:Fs→List D→Rs D)(fs:FA):FE:=fun τ=>(jQ τ i c).bind fun o=>if (xM m o).isNone=true then (fs τ).bind fun ds=>Vm (g o ds) else .no
theorem YJ{C:Addr}{g:Fs→List D→Rs D}(hC:nsIn X.K mainGlobals c=some (some (.ref C)))(hfs:∀τ ds,fs τ=.ok ds→ds.length=n){σ:St}{H:Hp}{Q:VK}(h:tE X (xr i c m g fs) σ H Q):XX C m (spR X.K c 0 n g) [] E0 (xB i) (tAs X fs) σ H Q:=by
 obtain⟨F,τ,R,h⟩:=h
 obtain⟨o,a,C',dx,vs,h1,h2,h3,h4,h5⟩:=Wr R h.bind
 obtain rfl:C=C':=by rw[hC] at h3;cases h3;rfl
 have l:=h4.look (f:=m)
 cases z:xM m o with
 |some d=>rw[z,if_neg (by simp)] at h5;exact h5.elim
 |none=>
  rw[z] at l h5
  rw[if_pos (by rfl)] at h5
  refine⟨_,h1,a,dx,vs,rfl,h2,l,F,τ,R,?_⟩
  have hb:=h5.bind
  cases q:fs τ with
  |no=>rw[q] at hb;exact hb
  |ex c=>rw[q] at hb;exact hb
  |ok ds=>
   rw[q] at hb
   intro us F1 H1 x r
   rw[append_nil]
   refine⟨by rw[length_cons,← r.length,hfs τ ds q],a,[],us,[],ds,o,F1,C,dx,vs,rfl,rfl,x.hh _ _ h2,h3,h4.keep x.ff fun l ws _ e1 e2=>⟨x.hh _ _ e1,?_⟩,x.fh,x.tt R.tt,Reps.nil,r,?_⟩
   ·cases y:F1 l with
    |none=>rfl
    |some u=>
     rcases x.nw l u y with z|z
     ·rw[e2] at z;cases z
     ·rw[e1] at z;cases z
   show match g o ds with
    |.ok d=>Ev X.K F1 H1 Q d
    |_=>False
   have hb:Ok X (Vm (g o ds)) (Ev X.K F H Q):=hb
   cases z:g o ds with
   |ok d=>rw[z] at hb;exact Ev.ext hb x
   |ex c=>rw[z] at hb;exact hb.elim
   |no=>rw[z] at hb;exact hb.elim
theorem j9{g:Fs→List D→Rs D}{p1 apos:Pos}{pl:Sem Bool}(M:MetR X.prog X.w X.K X.mg X.base c m k n ps g)(hr:Room k X.A)(hx:PE X (.Name x p1) (xB i))(ha:PDA X (e::es) fs)(hfs:∀τ ds,fs τ=.ok ds→ds.length=n)
  (hst:starEach (e::es) X.env=(false,eval e X.env)::starEach es X.env:=by rfl) (hpl:(backTo pos (starEach es X.env)).any (·.1)=false:=by rfl)
  (ht:eval (.Call (.Attribute (.Name x p1) m apos) (e::es) [] pos) X.env=(do
   let ov ← eval (.Name x p1) X.env
   standAt apos.atName
   let (f,first) ← holding [ov] (getMethod ov m pl)
   callWith pos f first (backTo pos (starEach (e::es) X.env)) (backToKw pos (keywordEach [] X.env))):=by rfl) :
  PDE X (.Call (.Attribute (.Name x p1) m apos) (e::es) [] pos) (xr i c m g fs):=by
 obtain⟨C,f,fd,hC,cl,hm,F,hb⟩:=M
 exact PE.imp (Wi hx cl hm F hr hb .nil (E:=E0) YC ha hst hpl ht) fun σ H Q h=>YJ hC hfs h
theorem MR{σ:St}{H:Hp}{Q:List V→Hp→Prop}(h:tAs X zm σ H Q):G6 σ H Q:=by
 obtain⟨F,τ,R,h⟩:=h
 exact h [] F H (Ext.refl R.fh) Reps.nil
theorem Xt{g:Fs→List D→Rs D}{p1 apos:Pos}{pl:Sem Bool}(M:MetR X.prog X.w X.K X.mg X.base c m k 0 ps g)(hr:Room k X.A)(hx:PE X (.Name x p1) (xB i))
  (ht:eval (.Call (.Attribute (.Name x p1) m apos) [] [] pos) X.env=(do
   let ov ← eval (.Name x p1) X.env
   standAt apos.atName
   let (f,first) ← holding [ov] (getMethod ov m pl)
   callWith pos f first (backTo pos (starEach [] X.env)) (backToKw pos (keywordEach [] X.env))):=by rfl) :
  PDE X (.Call (.Attribute (.Name x p1) m apos) [] [] pos) (xr i c m g zm):=by
 obtain⟨C,f,fd,hC,cl,hm,F,hb⟩:=M
 refine PE.imp (Up hx cl hm F hr hb .nil (E:=E0) YC ht) fun σ H Q h=>?_
 obtain⟨v,h1,a,dx,vs,h2,h3,h4,h5⟩:=YJ (n:=0) hC (fun τ ds h=>by cases h;rfl) h
 exact⟨v,h1,a,dx,vs,h2,h3,h4,MR h5⟩
noncomputable def jm(i:Nat)(c m:Str)(g:Fs→List D→Rs (D×Fs))(fs:FA):FOb:=fun τ=>(vM τ i c).bind fun p=>if (xM m p.2).isNone=true then (fs τ).bind fun ds=>(match g p.2 ds with
 | .ok (d,o')=>.ok (d,τ.set i (some (.obj p.1 c o')))
 |_=>.no) else .no
theorem QO{C:Addr}{g:Fs→List D→Rs (D×Fs)}(hC:nsIn X.K mainGlobals c=some (some (.ref C)))(hfs:∀τ ds,fs τ=.ok ds→ds.length=n){σ:St}{H:Hp}{Q:VK}(h:tOb X (jm i c m g fs) σ H Q):XX C m (spM X.K c 0 n g) [] E0 (xB i) (tAs X fs) σ H Q:=by
 obtain⟨B,Z,F,τ,R,h⟩:=h
 obtain⟨t,o,h1,h5⟩:=ZT (X:=X) h.bind
 dsimp only at h5
 obtain⟨a,q1,C',dx,vs,q2,q3,q4,q5,q6⟩:=R.rv.ob.at_ i t c o h1
 obtain rfl:C=C':=by rw[hC] at q4;cases q4;rfl
 have l:=q5.look (f:=m)
 cases z:xM m o with
 |some d=>rw[z,if_neg (by simp)] at h5;exact h5.elim
 |none=>
  rw[z] at l h5
  rw[if_pos (by rfl)] at h5
  refine⟨_,q1,a,dx,vs,rfl,q2,l,F,τ,R.rv,?_⟩
  have hb:=h5.bind
  cases q:fs τ with
  |no=>rw[q] at hb;exact hb
  |ex c=>rw[q] at hb;exact hb
  |ok ds=>
   rw[q] at hb
   intro us F1 H1 x r
   have R1:=R.ext x
   obtain⟨a',p1,ob⟩:=R1.rv.ob.at_ i t c o h1
   obtain rfl:a'=a:=by rw[q1] at p1;cases p1;rfl
   rw[append_nil]
   refine⟨by rw[length_cons,← r.length,hfs τ ds q],a',[],us,[],ds,o,F1,rfl,rfl,ob,x.fh,R1.rv.tt,Reps.nil,r,?_⟩
   rw[nil_append]
   dsimp only [Ok] at hb
   cases z:g o ds with
   |ok p=>
    obtain⟨d,o'⟩:=p
    rw[z] at hb
    exact fun v F' H' xo ob' nw rep=>hb v F' H' (x.ff.trans xo.ff) (R1.meth h1 q1 xo ob' nw) rep
   |ex c=>rw[z] at hb;exact hb.elim
   |no=>rw[z] at hb;exact hb.elim
theorem Ux{g:Fs→List D→Rs (D×Fs)}{p1 apos:Pos}{pl:Sem Bool}(M:MetM X.prog X.w X.K X.mg X.base c m k n ps g)(hr:Room k X.A)(hx:PE X (.Name x p1) (xB i))(ha:PDA X (e::es) fs)(hfs:∀τ ds,fs τ=.ok ds→ds.length=n)
  (hst:starEach (e::es) X.env=(false,eval e X.env)::starEach es X.env:=by rfl) (hpl:(backTo pos (starEach es X.env)).any (·.1)=false:=by rfl)
  (ht:eval (.Call (.Attribute (.Name x p1) m apos) (e::es) [] pos) X.env=(do
   let ov ← eval (.Name x p1) X.env
   standAt apos.atName
   let (f,first) ← holding [ov] (getMethod ov m pl)
   callWith pos f first (backTo pos (starEach (e::es) X.env)) (backToKw pos (keywordEach [] X.env))):=by rfl) :
  PDOb X (.Call (.Attribute (.Name x p1) m apos) (e::es) [] pos) (jm i c m g fs):=by
 obtain⟨C,f,fd,hC,cl,hm,F,hb⟩:=M
 exact PE.imp (Wi hx cl hm F hr hb .nil (E:=E0) YC ha hst hpl ht) fun σ H Q h=>QO hC hfs h
noncomputable def Vg(gt:FT):jV:=fun τ=>(gt τ).bind fun b=>.ok (b,τ)
theorem Qt{gt:FT}(h:PDT X e gt):Zv X e (Vg gt):=PT.imp h fun σ H Q z_=>by obtain⟨B,Z,F,τ,R,q⟩:=z_;exact tTs.of R.rv q.bind fun b F1 H1 g x _=>g F1 H1 x.ff (R.ext x)
noncomputable def oOp(op:D→D→Rs D)(fo:FOb)(fb:FE):FOb:=fun τ=>(fo τ).bind fun p=>(fb p.2).bind fun y=>(op p.1 y).bind fun z=>.ok (z,p.2)
theorem MG{r:R2}{op:D→D→Rs D}(hl:∀F H x y dx dy Q,Same F H→Rep X.K F dx x→Rep X.K F dy y→Ok X (op dx dy) (Ev X.K F H Q)→r x y H Q)
  (σ:St) (H:Hp) (Q:VK) (h:tOb X (oOp op fo fb) σ H Q):tOp r (tOb X fo) (tE X fb) σ H Q:=by
 obtain⟨B,Z,F,τ,R,h⟩:=h
 refine⟨B,Z,F,τ,R,h.bind.imp fun p g v F1 H1 f1 R1 r1=>?_⟩
 refine tE.at R1 g.bind fun y w F2 H2 g2 x2 R2 r2=>?_
 exact hl F2 H2 v w p.1 y Q R2.rv.fh (r1.mono x2.ff) r2 (g2.bind.imp fun z gz u F3 H3 x3 r3=>gz u F3 H3 (f1.trans (x2.ff.trans x3.ff)) (R2.ext x3) r3)
noncomputable def oB(f:FOb):jV:=fun τ=>(f τ).bind fun p=>match p.1 with
 |.bl b=>.ok (b,p.2)
 |_=>.no
theorem Uw{o:CmpOp}{op:D→D→Rs D}(ho:OpD X (compareOp o) op)(ha:PDOb X a fo)(hb:PDE X b fb)(hm:behindInMarks o b=false):Zv X (.Compare a [o] [b] pos) (oB (oOp op fo fb)):=by
 obtain⟨r,h1,h2⟩:=ho
 refine(Wc h1 ha hb hm).imp fun σ H Q h=>?_
 obtain⟨B,Z,F,τ,R,h⟩:=h
 refine MG h2 σ H _ ⟨B,Z,F,τ,R,h.bind.imp fun p g v F1 H1 f1 R1 r1=>?_⟩
 obtain⟨d,τ'⟩:=p
 cases d with
 |bl k=>simp only[Rep] at r1;exact⟨k,r1,g F1 H1 f1 R1⟩
 |_=>exact g.elim
noncomputable def YD(ga gb:jV):jV:=fun τ=>(ga τ).bind fun p=>if p.1=true then gb p.2 else .ok (false,p.2)
theorem Vc(ha:Zv X a ga):WW X (.BoolOp .And [a] pos) ga:=Wb ha
theorem Uv(ha:Zv X a ga)(hb:WW X (.BoolOp .And (b::rest) pos) gb):WW X (.BoolOp .And (a::b::rest) pos) (YD ga gb):=
 PW.imp (Ui ha hb) fun σ H Q ⟨B,Z,F,τ,R,h⟩=>⟨B,Z,F,τ,R,h.bind.imp fun p g F1 H1 f1 R1=>by
  obtain⟨k,τ'⟩:=p
  cases k with
  |true=>rw[if_pos rfl] at g ⊢;exact⟨B,Z,F1,τ',R1,g.imp fun p e F' H' f'=>e F' H' (f1.trans f')⟩
  |false=>rw[if_neg (by simp)] at g ⊢;exact g F1 H1 f1 R1⟩
theorem Mw(h:WW X e ga):Zv X e ga:=PW.pt h
noncomputable def Ua(gc:jV)(f g:FS):FS:=fun τ=>Fl.of (gc τ) fun p=>if p.1=true then f p.2 else g p.2
theorem Qr{s1 s2:List Stmt}{f g:FS}(hc:Zv X e ga)(h1:wy X s1 f)(h2:wy X s2 g):PDS X (.If e s1 s2 pos) (Ua ga f g):=
 PS.imp (GI hc h1 h2) fun E σ H ⟨B,Z,F,τ,R,h⟩=>⟨B,Z,F,τ,R,h.of.imp fun p q F1 H1 f1 R1=>by
  obtain⟨k,τ'⟩:=p
  cases k with
  |true=>rw[if_pos rfl] at q ⊢;exact⟨B,Z,F1,τ',R1,q.same f1⟩
  |false=>rw[if_neg (by simp)] at q ⊢;exact⟨B,Z,F1,τ',R1,q.same f1⟩⟩
noncomputable def Yp(fe:FE):FS:=fun τ=>Fl.of (fe τ) fun d=>.ro d τ
theorem Ut(he:PDE X e fe):PDS X (.Return (some e) pos) (Yp fe):=
 PS.imp (u9 he) fun E σ H z_=>by obtain⟨B,Z,F,τ,R,h⟩:=z_;exact tE.at R h.of fun d v F1 H1 g x R1 r=>g v σ F1 H1 x.ff R1 r
end
section
variable{X:Cx}{pos:Pos}{e a b:Expr}{es rest:List Expr}{fe fb:FE}{fs f1 f2:FA}{c m x y:Str}{i k n j:Nat}{ps:List Str}{fo:FOb}
end
theorem RS.setObj{K:Frag}{B Z F1 F H1 H:Hp}{τ:DS}{σ:St}{i:Nat}{c:Str}{fs:Fs}{a:Addr}(R1:RS K B Z F1 τ σ H1)(ex:Ext F1 H1 F H)(ob:Yb K F H c fs a)(ha:H1 a=none)(hf:∀l∈Lof H c a,H1 l=none) :
  RS K B Z F (τ.set i (some (.obj 0 c fs))) (σ.set i (some (.ref a))) H:=by
 have R:=R1.ext ex
 have len:=R.rv.len
 have lt:∀{j:Nat} {s:Option Sl},(τ.set i (some (.obj 0 c fs)))[j]?=some s→(i=j∧s=some (.obj 0 c fs)∧(σ.set i (some (.ref a)))[j]?=some (some (.ref a)))∨(i≠j∧τ[j]?=some s∧(σ.set i (some (.ref a)))[j]?=σ[j]?):=fun {j s} h=>by
  by_cases e:i=j
  ·subst e
   have hl:i<τ.length:=by
    rcases lt_or_ge i τ.length with z|z
    ·exact z
    ·rw[List.getElem?_eq_none_iff.mpr (by simpa using z)] at h;cases h
   rw[getElem?_set_self hl] at h;cases h
   exact .inl ⟨rfl,rfl,getElem?_set_self (by rw[← len];exact hl)⟩
  ·rw[getElem?_set_ne e] at h
   exact .inr ⟨e,h,getElem?_set_ne e⟩
 have ltS:∀{j:Nat} {c':Str},ObS (τ.set i (some (.obj 0 c fs)))[j]? c'→(i=j∧c'=c∧(σ.set i (some (.ref a)))[j]?=some (some (.ref a)))∨(i≠j∧ObS τ[j]? c'∧(σ.set i (some (.ref a)))[j]?=σ[j]?):=fun {j c'} h=>by
  rcases h with ⟨m,gs,h⟩|⟨gs,h⟩
  ·rcases lt h with ⟨e,z,q⟩|⟨e,z,q⟩
   ·cases z;exact .inl ⟨e,rfl,q⟩
   ·exact .inr ⟨e,.inl ⟨m,gs,z⟩,q⟩
  ·rcases lt h with ⟨e,z,q⟩|⟨e,z,q⟩
   ·cases z
   ·exact .inr ⟨e,.inr ⟨gs,z⟩,q⟩
 have old:∀{j:Nat} {c':Str} {b:Addr},ObS τ[j]? c'→σ[j]?=some (some (.ref b))→b≠a∧∀l∈Lof H c' b,H1 l≠none:=fun {j c' b} h e=>by
  obtain⟨b',C,dx,vs,gs,h1,h2,h3⟩:=R1.rv.ob.get h
  rw[e] at h1;cases h1
  refine⟨fun z=>(by subst z;rw[ha] at h2;cases h2),fun l hl z=>?_⟩
  rw[Lof.ins (ex.hh _ _ h2:H b=some (.ins C dx vs))] at hl
  obtain⟨_,ws,q⟩:=h3.own hl
  rw[z] at q;cases q
 refine⟨⟨R.rv.fh,by simp[len],fun j d h=>?_,fun j ds h=>?_,fun j k ds es b hjk h1 h2 h3 h4=>?_,R.rv.tt,⟨fun j m c1 g h=>?_,fun j k m c1 c2 g1 b hjk h1 h2 h3 h4=>?_,fun j c1 g h=>?_,fun j k m c1 c2 g1 b b' l hjk h1 h2 h3 h4 h5 h6=>?_,fun j k c1 ds b l h1 h2 h3 h4 h5=>?_⟩⟩,R.bh,R.zf,R.nb,fun j ds b h1 h2=>?_,fun j m c1 g b h1 h2=>?_,fun a0 dx b1 b2 j m c1 g h=>?_,fun j c1 g b h1 h2=>?_⟩
 ·rcases lt h with ⟨_,z,_⟩|⟨_,z,q⟩
  ·cases z
  ·rw[q];exact R.rv.val j d z
 ·rcases lt h with ⟨_,z,_⟩|⟨_,z,q⟩
  ·cases z
  ·rw[q];exact R.rv.own j ds z
 ·rcases lt h1 with ⟨_,z,_⟩|⟨_,z1,q1⟩
  ·cases z
  ·rcases lt h2 with ⟨_,z,_⟩|⟨_,z2,q2⟩
   ·cases z
   ·rw[q1] at h3;rw[q2] at h4
    exact R.rv.dis j k ds es b hjk z1 z2 h3 h4
 ·rcases lt h with ⟨_,z,q⟩|⟨_,z,q⟩
  ·cases z;exact⟨a,q,ob⟩
  ·rw[q];exact R.rv.ob.at_ j m c1 g z
 ·rcases lt h1 with ⟨e1,z,q1⟩|⟨_,z1,q1⟩
  ·rw[q1] at h3;cases h3
   rcases ltS h2 with ⟨e2,_,_⟩|⟨_,z2,q2⟩
   ·exact hjk (e1.symm.trans e2)
   ·rw[q2] at h4;exact(old z2 h4).1 rfl
  ·rw[q1] at h3
   rcases ltS h2 with ⟨_,_,q2⟩|⟨_,z2,q2⟩
   ·rw[q2] at h4;cases h4
    exact(old (.inl ⟨m,g1,z1⟩) h3).1 rfl
   ·rw[q2] at h4
    exact R.rv.ob.dis j k m c1 c2 g1 b hjk z1 z2 h3 h4
 ·rcases lt h with ⟨_,z,q⟩|⟨_,z,q⟩
  ·cases z
  ·obtain⟨a',C,dx,vs,r⟩:=R.rv.ob.rd j c1 g z
   exact⟨a',C,dx,vs,by rw[q];exact r.1,r.2⟩
 ·rcases lt h1 with ⟨e1,z,q1⟩|⟨_,z1,q1⟩
  ·cases z
   rw[q1] at h3;cases h3
   rcases ltS h2 with ⟨e2,_,_⟩|⟨_,z2,q2⟩
   ·exact hjk (e1.symm.trans e2)
   ·rw[q2] at h4;exact(old z2 h4).2 l h6 (hf l h5)
  ·rw[q1] at h3
   rcases ltS h2 with ⟨_,ec,q2⟩|⟨_,z2,q2⟩
   ·subst ec
    rw[q2] at h4;cases h4
    exact(old (.inl ⟨m,g1,z1⟩) h3).2 l h5 (hf l h6)
   ·rw[q2] at h4
    exact R.rv.ob.ll j k m c1 c2 g1 b b' l hjk z1 z2 h3 h4 h5 h6
 ·rcases lt h2 with ⟨_,z,_⟩|⟨_,z2,q2⟩
  ·cases z
  ·rw[q2] at h4
   rcases ltS h1 with ⟨_,ec,q1⟩|⟨_,z1,q1⟩
   ·subst ec
    rw[q1] at h3;cases h3
    obtain⟨p,ws,g1,g2,_⟩:=R1.rv.own k ds z2
    rw[h4] at g1;cases g1
    rw[hf l h5] at g2;cases g2
   ·rw[q1] at h3
    exact R.rv.ob.lo j k c1 ds b l z1 z2 h3 h4 h5
 ·rcases lt h1 with ⟨_,z,_⟩|⟨_,z,q⟩
  ·cases z
  ·rw[q] at h2;exact R.ob j ds b z h2
 ·rcases lt h1 with ⟨_,z,q⟩|⟨_,z,q⟩
  ·cases z
   rw[q] at h2;cases h2
   exact⟨yx R1.bh ha,fun l hl=>yx R1.bh (hf l hl)⟩
  ·rw[q] at h2;exact R.oo j m c1 g b z h2
 ·rcases lt h with ⟨_,z,_⟩|⟨_,z,q⟩
  ·cases z
  ·rw[q];exact R.sf a0 dx b1 b2 j m c1 g z
 ·rcases lt h1 with ⟨_,z,_⟩|⟨_,z,q⟩
  ·cases z
  ·rw[q] at h2;exact R.ro j c1 g b z h2
noncomputable def wW(i:Nat)(c:Str)(g:Fs→List D→Rs (D×Fs))(fs:FA):FS:=fun τ=>Fl.of (fs τ) fun ds=>match g [] ds with
 | .ok (.non,o)=>.nx (τ.set i (some (.obj 0 c o)))
 |_=>.no
section
variable{X:Cx}{pos:Pos}{e:Expr}{es:List Expr}{fs:FA}{c x:Str}{i k n:Nat}{ps:List Str}
theorem QT{C:Addr}{g:Fs→List D→Rs (D×Fs)}(hC:nsIn X.K mainGlobals c=some (some (.ref C)))(hfs:∀τ ds,fs τ=.ok ds→ds.length=n){σ:St}{H B Z F:Hp}{τ:DS}{E:jW}(R:RS X.K B Z F τ σ H)(h:Post X B Z F E (wW i c g fs τ)) :
  GG C (spM X.K c 0 n g) [] E0 (tAs X fs) σ H fun v H'=>E.nx (σ.set i (some v)) H':=by
 have hb:=Post.of h
 refine⟨F,τ,R.rv,?_⟩
 cases q:fs τ with
 |no=>rw[q] at hb;exact hb
 |ex c=>rw[q] at hb;exact hb
 |ok ds=>
  rw[q] at hb
  intro us F1 H1 x r y dx hy hdx hne
  have R1:=R.ext x
  have hFy:=zA x.fh hy
  rw[append_nil]
  have hk:∀{b:Addr} {u:HO},H1 b=some u→upd (upd H1 dx (.own y)) y (.ins C dx []) b=some u:=fun {b u} e=>by
   rw[zg (zt e hy),zg (zt e hdx)];exact e
  have hD:upd (upd H1 dx (.own y)) y (.ins C dx []) dx=some (.own y):=by rw[zg hne,zk]
  have hL:Lof (upd (upd H1 dx (.own y)) y (.ins C dx [])) c y=[]:=by rw[Lof.ins zk];rfl
  refine⟨by rw[length_cons,← r.length,hfs τ ds q],y,[],us,[],ds,[],F1,rfl,rfl,⟨C,dx,[],zk,hFy,hC,trivial,hD,by show([]:List Addr).Nodup;exact List.nodup_nil⟩,fun b u e=>hk (x.fh b u e),⟨fun t ht=>?_,fun d b e=>?_⟩,Reps.nil,r,?_⟩
  ·obtain⟨t1,t2⟩:=R1.rv.tt.1 t ht
   refine⟨t1,?_⟩
   rcases t2 with z|⟨c',z,z2⟩
   ·exact .inl (hk z)
   ·exact .inr ⟨c',hk z,hk z2⟩
  ·by_cases zd:d=dx
   ·subst zd;rw[hD] at e;cases e;exact⟨C,d,[],zk⟩
   ·by_cases zy:d=y
    ·subst zy;rw[zk] at e;cases e
    ·rw[zg zy,zg zd] at e
     obtain⟨C',dx',vs,h⟩:=R1.rv.tt.2 d b e
     exact⟨C',dx',vs,hk h⟩
  ·rw[nil_append]
   dsimp only [Ok] at hb
   cases z:g [] ds with
   |ex c=>rw[z] at hb;exact hb.elim
   |no=>rw[z] at hb;exact hb.elim
   |ok p=>
    obtain⟨d,o⟩:=p
    rw[z] at hb
    cases d with
    |non=>
     dsimp only at hb
     intro v F' H' xo ob nw rep
     simp only[Rep] at rep
     refine⟨rep,?_⟩
     have hF':F' y=none:=by obtain⟨_,_,_,_,h,_⟩:=ob;exact h
     have ex:Ext F1 H1 F' H':=⟨xo.ff,Hh.trans (fun b u e=>.of (by rw[vT (zt e hy) (by rw[hL];simp)];exact hk e)) xo.hh,xo.fh,fun b u e=>by
      rcases xo.nw b u e with z|z
      ·exact .inl z
      ·rcases vh z with z|z|z
       ·subst z;rw[hF'] at e;cases e
       ·rw[hL] at z;cases z
       ·by_cases n:b=y
        ·subst n;rw[zk] at z;cases z
        ·rw[zg n] at z
         by_cases n2:b=dx
         ·subst n2;rw[zk] at z;cases z
         ·rw[zg n2] at z;exact .inr z,fun _=>xo.tt⟩
     refine hb _ F' H' (x.ff.trans xo.ff) (R1.setObj ex ob hy fun l hl=>?_)
     rcases nw l hl with z|z
     ·rw[hL] at z;cases z
     ·by_cases n:l=y
      ·subst n;exact hy
      ·rw[zg n] at z
       by_cases n2:l=dx
       ·subst n2;exact hdx
       ·rw[zg n2] at z;exact z
    |_=>exact hb.elim
theorem Yy{g:Fs→List D→Rs (D×Fs)}{p1 pos' cpos:Pos}(M:ClsM X.prog X.w X.K X.mg X.base c k n ps g)(hr:Room (k+1) X.A)(hg:Gl X c)(ha:PDA X (e::es) fs)(hfs:∀τ ds,fs τ=.ok ds→ds.length=n)
  (hN:X.N.Nodup) (hi:X.N[i]?=some x) (hx:Loc X.env.scope x) (hdb:(c==("__debug__" : Str))=false:=by decide) (hst:starEach (e::es) X.env=(false,eval e X.env)::starEach es X.env:=by rfl) (hpl:(backTo cpos (starEach es X.env)).any (·.1)=false:=by rfl)
  (hs:swapsWith (.Call (.Name c p1) (e::es) [] cpos) (some (.Name x pos')) pos.line X.env=pure false:=by rfl) (hf:X.fn x=true∨X.env.scope.names.lookup x=some .local:=by first|exact .inl rfl|exact .inr rfl|assumption) :
  PDS X (.Assign [.Name x pos'] (.Call (.Name c p1) (e::es) [] cpos) pos) (wW i c g fs):=by
 obtain⟨C,f,fd,hC,hm,M,F,hb⟩:=M
 exact PS.imp (ZK hN hi hx (Qj M F hr hg hm hb .nil (E:=E0) YC ha hdb hst hpl) hs hf) fun E σ H z_=>by obtain⟨B,Z,F,τ,R,h⟩:=z_;exact QT hC hfs R h
end
structure ClsAt(K:Frag)(mg:Str→Option Value)(c:Str)(C:Addr):Prop where
 ns:nsIn K mainGlobals c=some (some (.ref C))
 cls:Cls K C
 at_:mg c=some (.ref C)
section
variable{P:Program}{w:World}{K:Frag}{mg:Str→Option Value}{base:Heap}
theorem MetM.mk{c m qual:Str}{C:Addr}{st:Stmt}{f:Addr}{fd:FuncData}{N ps:List Str}{k n:Nat}{fb:FS}(A:ClsAt K mg c C)(hm:jU K C m f)(D:Fun K m qual st f fd)(S:zL N ps (zi st))(hn:ps.length=n+1)
  (hb:∀(kV doc pm:Value) (an:Option Addr) (cdv ct:Value) (us:List Value),us.length=ps.length→bindArgs (fnOf m qual (zO st) (zC st) (zi st) .none kV doc pm an cdv ct) ⟨us,[]⟩=pure (ps.zip us))
  (hbody:∀(cdv:Value) (A:Around) (outer:List Env) (s:Shared) (H:Hp) (E:XK),Room k (A.deeper (envOfC qual (zi st) s.heap.objs.size f cdv)) →
   wy (ut CX0 P w K mg base N qual (zi st) f cdv A outer s H E).nox (zC st) fb):MetM P w K mg base c m (k+1) n ps (Yq N.length 0 c fb):=
 ⟨C,f,fd,A.ns,A.cls,hm,fnM D S hn hbody,D.binds hb⟩
theorem MetR.mk{c m qual:Str}{C:Addr}{st:Stmt}{f:Addr}{fd:FuncData}{N ps:List Str}{k n:Nat}{fb:FS}(A:ClsAt K mg c C)(hm:jU K C m f)(D:Fun K m qual st f fd)(S:zL N ps (zi st))(hn:ps.length=n+1)
  (hb:∀(kV doc pm:Value) (an:Option Addr) (cdv ct:Value) (us:List Value),us.length=ps.length→bindArgs (fnOf m qual (zO st) (zC st) (zi st) .none kV doc pm an cdv ct) ⟨us,[]⟩=pure (ps.zip us))
  (hbody:∀(cdv:Value) (A:Around) (outer:List Env) (s:Shared) (H:Hp) (E:XK),Room k (A.deeper (envOfC qual (zi st) s.heap.objs.size f cdv)) →
   wy (ut CX0 P w K mg base N qual (zi st) f cdv A outer s H E).nox (zC st) fb):MetR P w K mg base c m (k+1) n ps (Xm N.length 0 c fb):=
 ⟨C,f,fd,A.ns,A.cls,hm,fnR D S hn hbody,D.binds hb⟩
theorem ClsM.mk{c qual:Str}{C:Addr}{st:Stmt}{f:Addr}{fd:FuncData}{N ps:List Str}{k n:Nat}{fb:FS}(A:ClsAt K mg c C)(hm:Mk K C f)(D:Fun K "__init__" qual st f fd)(S:zL N ps (zi st))(hn:ps.length=n+1)
  (hb:∀(kV doc pm:Value) (an:Option Addr) (cdv ct:Value) (us:List Value),us.length=ps.length→bindArgs (fnOf "__init__" qual (zO st) (zC st) (zi st) .none kV doc pm an cdv ct) ⟨us,[]⟩=pure (ps.zip us))
  (hbody:∀(cdv:Value) (A:Around) (outer:List Env) (s:Shared) (H:Hp) (E:XK),Room k (A.deeper (envOfC qual (zi st) s.heap.objs.size f cdv)) →
   wy (ut CX0 P w K mg base N qual (zi st) f cdv A outer s H E).nox (zC st) fb):ClsM P w K mg base c (k+1) n ps (Yq N.length 0 c fb):=
 ⟨C,f,fd,A.ns,A.at_,hm,fnM D S hn hbody,D.binds hb⟩
end
noncomputable def ItH(K:Frag)(J:It)(F1 H1:Hp)(ds:List D):Prop:=∀(i:Nat) (F H:Hp),Same F1 F→Same F H→Hh H1 H →
 (ds.length≤i→J.stop i H)∧∀d,ds[i]?=some d→J.go i H∧∀x H',J.yld i H x H'→∃F',Ext F H F' H'∧Rep K F' d x
noncomputable def tIh(X:Cx)(f:FA):TI:=fun σ H R=>∃F τ,RV X.K F τ σ H∧Ok X (f τ) fun ds=>∀J F1 H1,Ext F H F1 H1→ItH X.K J F1 H1 ds→R J H1
noncomputable def GD(X:Cx)(tg iter:Expr)(f:FA):Prop:=PI X tg iter (tIh X f)
theorem PDI.h{X:Cx}{tg e:Expr}{f:FA}(h:PDI X tg e f):GD X tg e f:=PI.imp h fun σ H R z_=>by obtain⟨F,τ,Rv,q⟩:=z_;exact⟨F,τ,Rv,q.imp fun ds g J F1 H1 x io=>g J F1 H1 x fun i F H a b _=>io i F H a b⟩
section
variable{X:Cx}{scope:Scope}{tn fr:List Str}{idx:List Nat}{tg iter elt:Expr}{ifs:List Expr}{pos:Pos}{fi:FA}{set:FG}{ft:FT}{fe:FE}
theorem jC(so:jI set){Y:Cx}(hK:Y.K=X.K)(σ:St)(H:Hp)(Q:VK)(h:tFr X (yY tn.length idx fi set ft fe) σ H Q):Yf (wT tn.length idx) (tIh X fi) (tG Y set) (tTs Y ft) (tE Y fe) σ H Q:=by
 obtain⟨F,τ,R,h⟩:=h
 refine⟨F,τ,R,h.bind.imp fun ds gds J F1 H1 x io=>fun acc hacc=>?_⟩
 cases q:xq set ft fe (xv tn.length idx τ) ds with
 |no=>rw[q] at gds;exact gds.elim
 |ex c=>rw[q] at gds;exact gds.elim
 |ok xs=>
  rw[q] at gds
  obtain⟨hz,k⟩:=z6 gds
  have R1:=R.ext x
  have hF1:F1 acc=none:=zA x.fh hacc
  refine⟨fun i m σ1 Hc=>m=ds.length-i∧i≤ds.length∧∃F2 Hm τ1 dn rs vs,CWH X.K set ft fe (xv tn.length idx τ) ds xs F1 H1 acc i σ1 Hc F2 Hm τ1 dn rs vs,⟨ds.length,by simp,zero_le _,F1,H1,_,[],xs,[],Ext.refl x.fh,hacc,rfl,Reps.nil,?_,yS _ _ _,fun _=>rfl,q,rfl⟩,?_⟩
  ·exact(X8 tn.length idx R1).free_upd (yS _ _ _) hacc hF1 (.inl hacc)
  rintro i m σ1 Hc ⟨rfl,hi,F2,Hm,τ1,dn,rs,vs,x2,hm,rfl,r2,R2,n2,so2,cl,ex⟩
  obtain⟨i1,i2⟩:=io i F2 _ x2.ff R2.rv.fh (x2.hh.trans (.of (zS hm)))
  by_cases hlt:i<ds.length
  ·have hd:ds.drop i=ds[i]::ds.drop (i+1):=drop_eq_getElem_cons hlt
   rw[hd,xq] at cl
   obtain⟨go,yl⟩:=i2 ds[i] (by simp[hlt])
   refine .inr ⟨go,fun y H' yy=>?_⟩
   obtain⟨F3,x3,r3⟩:=yl y H' yy
   refine⟨F3,τ1,ds[i],by rw[hK];exact(R2.ext x3).rv,by rw[hK];exact r3,?_⟩
   rw[so2]
   cases e1:set ds[i] (xv tn.length idx τ) with
   |no=>rw[e1] at cl;cases cl
   |ex c=>rw[e1] at cl;cases cl
   |ok τ2=>
    rw[e1] at cl
    simp only at cl
    intro σ2 _ RR _
    rw[hK] at RR
    have RR:=RR _ _ (R2.ext x3)
    have n3:=so.no _ _ _ e1 (yS _ _ _)
    have so3:∀d,set d τ2=set d (xv tn.length idx τ):=fun d=>so.ov d _ _ _ e1
    cases e2:ft τ2 with
    |no=>rw[e2] at cl;cases cl
    |ex c=>rw[e2] at cl;cases cl
    |ok b=>
     rw[e2] at cl
     refine⟨F3,τ2,by rw[hK];exact RR.rv,?_⟩
     rw[e2]
     intro F4 H4 x4
     have x34:=x3.trans x4
     cases b with
     |false=>
      simp only at cl
      rw[if_neg (by simp)]
      obtain⟨y1,y2⟩:=vV x2 hm x34
      have ha:H4 acc=some (.lst vs):=x34.hh acc _ zk
      have eH:H4=upd (y9 H4 acc) acc (.lst vs):=by
       rw[vt];funext b;unfold upd;split
       ·rename_i z;subst z;exact ha
       ·rfl
      refine⟨ds.length-(i+1),by lia,rfl,hlt,F4,y9 H4 acc,τ2,dn,rs,vs,y1,xU _ _,eH,r2.mono x34.ff,RR.ext x4,n3,so3,cl,ex⟩
     |true=>
      simp only at cl
      rw[if_pos rfl]
      cases e3:fe τ2 with
      |no=>rw[e3] at cl;cases cl
      |ex c=>rw[e3] at cl;cases cl
      |ok z=>
       rw[e3] at cl
       simp only at cl
       cases e4:xq set ft fe (xv tn.length idx τ) (ds.drop (i+1)) with
       |no=>rw[e4] at cl;cases cl
       |ex c=>rw[e4] at cl;cases cl
       |ok rs'=>
        rw[e4] at cl
        have ers:z::rs'=rs:=by simpa using cl
        refine⟨F4,τ2,by rw[hK];exact(RR.ext x4).rv,?_⟩
        rw[e3]
        intro v F5 H5 x5 r5
        rw[hK] at r5
        have x35:=x34.trans x5
        obtain⟨y1,y2⟩:=vV x2 hm x35
        refine⟨vs,x35.hh acc _ zk,?_,ds.length-(i+1),by lia,rfl,hlt,F5,y9 H5 acc,τ2,dn++[z],rs',vs++[v],y1,xU _ _,by rw[vt],(r2.mono x35.ff).append (Reps.cons r5 Reps.nil),?_,n3,so3,e4,?_⟩
        ·have:=congrArg List.length ex
         rw[← ers,length_append,length_cons,r2.length] at this
         lia
        ·exact((RR.ext x4).ext x5).free_upd n3 hacc y2 (.inr ⟨_,x35.hh acc _ zk⟩)
        ·rw[ex,← ers,append_assoc];rfl
  ·have e:i=ds.length:=by lia
   subst e
   rw[drop_length,xq] at cl
   cases cl
   rw[append_nil] at ex
   subst ex
   exact .inl ⟨i1 (le_refl _),k acc vs F2 Hm (x.trans x2) hm r2⟩
theorem wb(hb:u0 X.env.scope scope=true)(hc:X.calm=true)(hfr:FreeOk scope X.N fr idx)(so:jI set)(hi:GD X tg iter fi)
  (hg:∀s H C fp,PDG (X.comp scope (tn++fr) s H C fp) tg set) (ht:∀s H C fp,JI (X.comp scope (tn++fr) s H C fp) ifs ft) (he:∀s H C fp,PDE (X.comp scope (tn++fr) s H C fp) elt fe)
  (hs:∀x,foldedSetIterable iter X.env x=pure x:=by intro _;rfl):PDF X (.ListComp elt [⟨tg,iter,ifs,0⟩] scope pos) (yY tn.length idx fi set ft fe):=
 PE.imp (Qm (s0:=wT tn.length idx) (g:=tG (X.comp scope (tn++fr) X.s₀ X.H₀ 0 []) set) (ti:=tTs (X.comp scope (tn++fr) X.s₀ X.H₀ 0 []) ft) (te:=tE (X.comp scope (tn++fr) X.s₀ X.H₀ 0 []) fe)
  (vY hb) hc (fun σ _=>by simp[wT,hfr.len]) (ZB hfr) hi hg ht he hs) (jC so rfl)
theorem Xs{i:Nat}{y:Str}{py spos:Pos}(hN:X.N.Nodup)(hiN:X.N[i]?=some y)(hy:X.env.scope.names.lookup y=some .local)
  (hsw:swapsWith (.ListComp elt [⟨tg,iter,ifs,0⟩] scope pos) (some (.Name y py)) spos.line X.env=pure true)
  (hb:u0 X.env.scope scope=true) (hc:X.calm=true) (hfr:FreeOk scope X.N fr idx) (so:jI set) (hi:GD X tg iter fi)
  (hg:∀s H C fp,PDG (X.comp scope (tn++fr) s H C fp) tg set) (ht:∀s H C fp,JI (X.comp scope (tn++fr) s H C fp) ifs ft) (he:∀s H C fp,PDE (X.comp scope (tn++fr) s H C fp) elt fe)
  (hs:∀x,foldedSetIterable iter X.env x=pure x:=by intro _;rfl):PDS X (.Assign [.Name y py] (.ListComp elt [⟨tg,iter,ifs,0⟩] scope pos) spos) (Yn i (yY tn.length idx fi set ft fe)):=
 PS.imp (Qf (s0:=wT tn.length idx) (g:=tG (X.comp scope (tn++fr) X.s₀ X.H₀ 0 []) set) (ti:=tTs (X.comp scope (tn++fr) X.s₀ X.H₀ 0 []) ft) (te:=tE (X.comp scope (tn++fr) X.s₀ X.H₀ 0 []) fe) hN hiN hy hsw
  (vY hb) hc (fun σ _=>by simp[wT,hfr.len]) (ZB hfr) hi hg ht he hs) fun E σ H ⟨B,Z,F,τ,R,h⟩=>by
  refine jC (X:=X) (tn:=tn) (idx:=idx) (fi:=fi) (ft:=ft) (fe:=fe) so (Y:=X.comp scope (tn++fr) X.s₀ X.H₀ 0 []) rfl σ H (fun x H1=>YU i x σ H1 E.nx) ⟨F,τ,R.rv,?_⟩
  exact h.of.imp fun ds g p vs F1 H1 x hp r=>g _ F1 _ x.ff ((R.ext x).setO hp r)
end
section
variable{X:Cx}{pos:Pos}{e tg:Expr}{es:List Expr}{fe:FE}{fs:FA}{c f x:Str}{i:Nat}{C:Addr}
theorem itl_h{K:Frag}{F H H1:Hp}{l:Addr}{ds:List D}{ws:List V}{i:Nat}(hl:H1 l=some (.lst ws))(hh:Hh H1 H)(fh:Same F H)(r:Reps K F ds ws) :
  (ds.length≤i→(Itl K l).stop i H)∧∀d,ds[i]?=some d→(Itl K l).go i H∧∀x H',(Itl K l).yld i H x H'→∃F',Ext F H F' H'∧Rep K F' d x:=by
 have q:SqL K H l ws:=SqL.of (hh _ _ hl)
 refine⟨fun h=>⟨ws,q,by rw[← r.length];exact h⟩,fun d hd=>?_⟩
 obtain⟨v,h1,h2⟩:=r.get hd
 refine⟨⟨ws,v,q,h1⟩,fun x H' y=>?_⟩
 obtain⟨e1,y⟩:=y
 subst e1
 have h3:=y ws q
 rw[h1] at h3;cases h3
 exact⟨F,Ext.refl fh,h2⟩
noncomputable def W7(τ:DS)(i:Nat)(c f:Str):Rs (List D):=match τ[i]? with
 | some (some (.obr c' fs))=>if c'=c then (match xM f fs with
  | some (.lst ds)=>.ok ds
  |_=>.no) else .no
 |_=>.no
theorem J3{X:Cx}{B Z F H:Hp}{τ:DS}{σ:St}{P:List D→Prop}(R:RS X.K B Z F τ σ H)(ho:Tabs.own c f=true)(h:Ok X (W7 τ i c f) P) :
  ∃ds a C dx vs l ws,σ[i]?=some (some (.ref a))∧H a=some (.ins C dx vs)∧nsIn X.K mainGlobals c=some (some (.ref C))∧vs.lookup f=some (.ref l)∧B l=some (.lst ws)∧Reps X.K F ds ws∧P ds:=by
 unfold W7 at h
 split at h
 ·rename_i c' fs e
  by_cases z:c'=c
  ·subst z
   rw[if_pos rfl] at h
   obtain⟨a,C,dx,vs,h1,h2,h4,h5⟩:=R.rv.ob.rd i c' fs e
   obtain⟨C2,dx2,vs2,b1,b2⟩:=R.ro i c' fs a e h1
   have hb:H a=some (.ins C2 dx2 vs2):=R.bh _ _ b1
   rw[h2] at hb;cases hb
   have l:=h5.look (f:=f)
   cases q:xM f fs with
   |none=>rw[q] at h;exact h.elim
   |some d=>
    rw[q] at h l
    obtain⟨v,l1,l2⟩:=l
    unfold uM at l2
    rw[if_pos ho] at l2
    obtain⟨ds,p,ws,rfl,rfl,e3,e4,e5⟩:=l2
    obtain⟨ws2,b3⟩:=b2 p (wO ho l1)
    have:H p=some (.lst ws2):=R.bh _ _ b3
    rw[e3] at this;cases this
    exact⟨ds,a,C,dx,vs,p,ws,h1,h2,h4,l1,b3,e5,h⟩
  ·rw[if_neg z] at h;exact h.elim
 ·exact h.elim
end
section
variable{P:Program}{w:World}{K:Frag}{mg:Str→Option Value}{base:Heap}
end
section
variable{X:Cx}{pos:Pos}{e:Expr}{es:List Expr}{fs:FA}{c c2 m x y:Str}{i k n h_:Nat}{ps:List Str}
end
section
variable{X:Cx}{pos:Pos}{e a b:Expr}{es:List Expr}{fe fa fb fi:FE}{C:Addr}{c f x:Str}{i:Nat}
end
omit [Tabs] in
theorem vals_ints:∀{vs:List Value} {ns:List Int},IntsAre vs ns→Vals (ns.map V.int) vs
 |_,_,.nil=>.nil
 |_,_,.cons n t r=>.cons ⟨t,rfl⟩ (vals_ints r)
section
variable{X:Cx}{pins:List (Addr×Obj)}{σ:St}{F H:Hp}{s:Shared}{Q:VK}{E:Value→Shared→Prop}
end
theorem U9{K:Frag}{F1 H1:Hp}{l:Addr}{ds:List D}{vs:List V}(hl:H1 l=some (.lst vs))(r:Reps K F1 ds vs):ItH K (Itn K l) F1 H1 (yc 0 ds):=fun i F H f1 f2 hh=>by
 have q:SqL K H l vs:=SqL.of (hh _ _ hl)
 have hl:=wo ds 0
 have hr:=r.length
 refine⟨fun h=>⟨vs,q,by lia⟩,fun p hp=>?_⟩
 obtain⟨d,h2,rfl⟩:=wq hp
 have l2:i<vs.length:=by have:=(List.getElem?_eq_some_iff.mp h2).1;lia
 refine⟨⟨vs,q,l2⟩,fun y H' yy=>?_⟩
 obtain⟨pa,v,hp,q',rfl,rfl⟩:=yy
 refine⟨upd F pa (.tup [.int i,v]),Ext.new f2 hp,?_⟩
 simp only[Rep]
 refine⟨pa,_,rfl,SqT.of zk,Reps.cons (by simp only[Rep,zero_add]) (Reps.cons ?_ Reps.nil)⟩
 obtain⟨v',hv',rv'⟩:=r.get h2
 have e3:=q' vs q
 rw[hv'] at e3;cases e3
 exact(rv'.mono f1).mono (zS (zA f2 hp))
noncomputable def Gd(i:Nat)(c f:Str):FA:=fun τ=>(Vf τ i c f).bind fun ds=>.ok (yc 0 ds)
section
variable{X:Cx}{pos:Pos}{C:Addr}{c f x:Str}{i:Nat}
theorem Qu{p p1 p2:Pos}{elts:List Expr}{x1}{tpos:Pos}(hx:PE X (.Name x p1) (xB i))(hC:nsIn X.K mainGlobals c=some (some (.ref C)))(cl:Cls X.K C)(na:NoAttr X.K C f)(hg:Gl X "enumerate")(hm:X.mg "enumerate" = none)(ho:Tabs.own c f=true:=by rfl)
  (hs:starEach [.Attribute (.Name x p1) f p2] X.env=[(false,eval (.Attribute (.Name x p1) f p2) X.env)]:=by rfl) :
  GD X (.Tuple elts x1 tpos) (.Call (.Name "enumerate" p) [.Attribute (.Name x p1) f p2] [] pos) (Gd i c f):=
 PI.imp (Wg hg hm (vH (Wh hx) jg (by rw[hs];rfl)) hs) fun σ H R z_=>by
  obtain⟨F,τ,Rv,h⟩:=z_
  obtain⟨ds,a,C',dx,vs,l,ws,h1,h2,h3,h4,h5,h6,h7,h8⟩:=Wo Rv ho (Ok.bind h)
  obtain rfl:C=C':=by rw[hC] at h3;cases h3;rfl
  exact⟨_,h1,a,C,dx,vs,.ref l,rfl,h2,cl,na,h4,l,ws,rfl,SqL.of h5,h8 _ F H (Ext.refl Rv.fh) (U9 h5 h7)⟩
end
open PySem.W
section
variable{P:Program}{w:World}{K:Frag}{mg:Str→Option Value}{base:Heap}
end
section
variable{P:Program}{w:World}{K:Frag}{mg:Str→Option Value}{base:Heap}
end
section
variable{X:Cx}{pos:Pos}{e:Expr}{es:List Expr}{fe:FE}{ff:FA}{c m x:Str}{i k n h_:Nat}{ps:List Str}
end
end FD
set_option Elab.async false
set_option linter.all false
namespace STW
open PySem
noncomputable abbrev Ris(l:List Nat):Prop:=l.Pairwise (· < ·)
theorem uO{l:List Nat}(h:Ris l){i k:Nat}(hik:i<k)(hk:k<l.length):l.getD i 0<l.getD k 0:=by
 have:=pairwise_iff_getElem.mp h i k (by lia) hk hik
 simpa[show i<l.length by lia,hk] using this
theorem jF(xs:Array Nat)(j:Nat):∀(fuel lo hi:Nat),lo≤hi→hi≤xs.size→hi-lo≤fuel→Ris xs.toList→(∀i,i<lo→xs.toList.getD i 0<j)→(∀i,hi≤i→i<xs.size→j≤xs.toList.getD i 0) →
  SetTable.below.go xs j fuel lo hi≤xs.size∧(∀i,i<SetTable.below.go xs j fuel lo hi→xs.toList.getD i 0<j)∧∀i,SetTable.below.go xs j fuel lo hi≤i→i<xs.size→j≤xs.toList.getD i 0:=by
 intro l_
 induction l_ with
 |zero=>
  rintro lo hi h1 h2 h3 hr ha hb
  have e:lo=hi:=by lia
  subst e
  unfold SetTable.below.go
  exact⟨h2,ha,hb⟩
 |succ fuel ih_=>
  rintro lo hi h1 h2 h3 hr ha hb
  unfold SetTable.below.go
  by_cases c:lo<hi
  ·rw[if_pos c]
   have hm:(lo+hi) / 2<xs.size:=by lia
   have em:xs.getD ((lo+hi) / 2) j=xs.toList.getD ((lo+hi) / 2) 0:=by
    simp[Array.getD,hm]
   dsimp only
   by_cases d:xs.getD ((lo+hi) / 2) j<j
   ·rw[if_pos d]
    refine ih_ _ hi (by lia) h2 (by lia) hr (fun i hi'=>?_) hb
    rw[em] at d
    by_cases z:i=(lo+hi) / 2
    ·subst z;exact d
    ·exact lt_trans (uO hr (by lia) (by simpa using hm)) d
   ·rw[if_neg d]
    refine ih_ lo _ (by lia) (by lia) (by lia) hr ha fun i hi' hs=>?_
    rw[em] at d
    by_cases z:i=(lo+hi) / 2
    ·subst z;lia
    ·have:=uO hr (i:=(lo+hi) / 2) (k:=i) (by lia) (by simpa using hs)
     lia
  ·rw[if_neg c]
   have e:lo=hi:=by lia
   subst e
   exact⟨h2,ha,hb⟩
theorem Y9{xs:Array Nat}(hr:Ris xs.toList)(j:Nat):SetTable.below xs j≤xs.size∧(∀i,i<SetTable.below xs j→xs.toList.getD i 0<j)∧∀i,SetTable.below xs j≤i→i<xs.size→j≤xs.toList.getD i 0:=
 jF xs j xs.size 0 xs.size (zero_le _) (le_refl _) (by lia) hr (fun i h=>by lia) fun i h1 h2=>by lia
noncomputable def TT(L:Bool)(t:SetTable):Prop:=t.led=L∧t.dummies = #[]∧Ris t.place.toList
theorem Xi{L:Bool}{t:SetTable}(h:TT L t)(j:Nat):t.slot j≠.dummy:=by
 unfold SetTable.slot
 have:SetTable.has t.dummies j=false:=by
  rw[h.2.1];unfold SetTable.has;simp
 dsimp only
 split
 ·simp
 ·rw[this];simp
theorem Xh{t:SetTable}{j:Nat}(h:t.slot j=.empty):t.place[SetTable.below t.place j]?≠some j:=fun e=>by
 unfold SetTable.slot at h
 dsimp only at h
 rw[e] at h
 simp at h
theorem Yu{L:Bool}{t:SetTable}(ht:TT L t)(hashAt:Nat→Int)(h:Int):∀(fuel:Nat) (p:SetTable.Probe) (j:Nat) (d:Option Nat),p.dummy=none→SetTable.probe.go t hashAt h fuel p=some (.empty j d)→t.slot j=.empty∧d=none:=by
 intro l_
 induction l_ with
 |zero=>
  rintro p j d _ e
  unfold SetTable.probe.go at e;cases e
 |succ fuel ih_=>
  rintro p j d hp e
  unfold SetTable.probe.go at e
  cases q:t.slot p.j with
  |empty=>
   rw[q] at e
   simp only[Option.some.injEq,SetTable.Met.empty.injEq] at e
   obtain⟨rfl,rfl⟩:=e
   exact⟨q,hp⟩
  |dummy=>exact absurd q (Xi ht p.j)
  |live i=>
   rw[q] at e
   dsimp only at e
   split at e
   ·cases e
   ·refine ih_ _ j d ?_ e
    unfold SetTable.advance
    split
    ·exact hp
    ·exact hp
theorem VD{L:Bool}{t:SetTable}(ht:TT L t){h:Int}{j:Nat}{b:Bool}(e:t.freeSlot h=some (j,b)):t.slot j=.empty:=by
 unfold SetTable.freeSlot at e
 split at e
 ·rename_i j' d q
  unfold SetTable.probe at q
  obtain⟨q1,q2⟩:=Yu ht _ h _ _ j' d rfl q
  subst q2
  simp at e
  rw[← e.1];exact q1
 ·cases e
theorem YO{α:Type}(xs:Array α)(p:Nat)(x:α)(hp:p≤xs.size):(SetTable.insertAt xs p x).toList=xs.toList.take p++x::xs.toList.drop p:=by
 unfold SetTable.insertAt
 simp[Array.toList_extract,List.extract]
 exact List.take_of_length_le (by simp)
theorem J8{L:Bool}{t:SetTable}(ht:TT L t){j:Nat}(hj:t.slot j=.empty):TT L (t.put j).1:=by
 obtain⟨b1,b2,b3⟩:=Y9 ht.2.2 j
 have hne:=Xh hj
 have hd:SetTable.has t.dummies j=false:=by rw[ht.2.1];unfold SetTable.has;simp
 refine⟨ht.1,?_,?_⟩
 ·show(if SetTable.has t.dummies j=true then _ else t.dummies) = #[]
  rw[hd];simpa using ht.2.1
 ·show Ris (SetTable.insertAt t.place (SetTable.below t.place j) j).toList
  rw[YO _ _ _ b1]
  generalize SetTable.below t.place j=p at *
  have hr:=ht.2.2
  refine List.pairwise_append.mpr ⟨hr.sublist (List.take_sublist _ _),pairwise_cons.mpr ⟨fun y hy=>?_,hr.sublist (List.drop_sublist _ _)⟩,fun a ha y hy=>?_⟩
  ·obtain⟨i,hi,rfl⟩:=List.getElem_of_mem hy
   rw[List.getElem_drop]
   rw[List.length_drop] at hi
   have hs:p+i<t.place.size:=by have:=length_toList (xs:=t.place);lia
   have g:=b3 (p+i) (by lia) hs
   have e:t.place.toList.getD (p+i) 0=t.place.toList[p+i]'(by simpa using hs):=by simp[hs]
   rw[e] at g
   refine Nat.lt_of_le_of_ne g fun z=>?_
   by_cases i0:i=0
   ·subst i0
    apply hne
    have:t.place[p]?=some (t.place.toList[p+0]'(by simpa using hs)):=by
     have:p<t.place.size:=by lia
     simp[this]
    rw[this,← z]
   ·have h2:=uO hr (i:=p) (k:=p+i) (by lia) (by simpa using hs)
    have h3:=b3 p (le_refl _) (by lia)
    rw[e] at h2
    lia
  ·have ha':a<j:=by
    obtain⟨i,hi,rfl⟩:=List.getElem_of_mem ha
    rw[List.getElem_take]
    rw[List.length_take] at hi
    have g:=b2 i (by lia)
    have hi2:i<t.place.size:=by have:=length_toList (xs:=t.place);lia
    simpa[hi2] using g
   rcases mem_cons.mp hy with rfl|hy
   ·exact ha'
   ·obtain⟨i,hi,rfl⟩:=List.getElem_of_mem hy
    rw[List.getElem_drop]
    rw[List.length_drop] at hi
    have hs:p+i<t.place.size:=by have:=length_toList (xs:=t.place);lia
    have g:=b3 (p+i) (by lia) hs
    have e:t.place.toList.getD (p+i) 0=t.place.toList[p+i]'(by simpa using hs):=by simp[hs]
    rw[e] at g
    lia
theorem wL{L:Bool}{t:SetTable}(ht:TT L t)(n:Nat):TT L (t.standIn n):=⟨ht.1,rfl,by
 show Ris (Array.range n).toList
 rw[Array.toList_range];exact List.pairwise_lt_range⟩
theorem MA{L:Bool}{t:SetTable}(ht:TT L t)(n:Nat):TT L (t.orStandIn n):=by
 unfold SetTable.orStandIn
 split
 ·exact ht
 ·exact wL ht n
theorem Q0{L:Bool}{t:SetTable}(ht:TT L t)(es:Array (Int×Value))(h:Int)(x:Value):TT L (layNew t es h x).2.1:=by
 unfold layNew
 split
 ·rename_i slot wd e
  exact MA (J8 ht (VD ht e)) _
 ·exact wL ht _
theorem U3{mask finger moves:Nat}{led plain:Bool}{hs:Array Int}{t:SetTable}{o:Array Nat}(e:SetTable.laid mask finger moves led plain hs=some (t,o)):TT led t:=by
 unfold SetTable.laid at e
 cases q:SetTable.layClean mask hs with
 |none=>rw[q] at e;cases e
 |some owner=>
  rw[q] at e
  simp only[Option.bind_eq_bind,Option.bind_some,Option.pure_def,Option.some.injEq,Prod.mk.injEq] at e
  obtain⟨rfl,_⟩:=e
  refine⟨rfl,rfl,?_⟩
  show Ris (((List.range (mask+1)).filterMap fun j=>(owner.getD j none).map (j,·)).map (·.1)).toArray.toList
  show(((List.range (mask+1)).filterMap fun j=>(owner.getD j none).map (j,·)).map (·.1)).Pairwise (· < ·)
  rw[List.pairwise_map]
  refine(List.Pairwise.filterMap (R:=(· < ·)) _ (fun a a' haa b hb b' hb'=>?_) List.pairwise_lt_range)
  cases z:owner.getD a none with
  |none=>rw[z] at hb;simp at hb
  |some k=>
   cases z':owner.getD a' none with
   |none=>rw[z'] at hb';simp at hb'
   |some k'=>
    rw[z] at hb;rw[z'] at hb'
    simp at hb hb'
    subst hb;subst hb'
    exact haa
theorem W9{L:Bool}{t:SetTable}(ht:TT L t)(es:Array (Int×Value))(wanted:Nat):TT L (relayAll t es wanted).2.1:=by
 unfold relayAll
 split
 ·rename_i t' order e
  dsimp only
  split
  ·unfold SetTable.relaid at e
   have:=U3 e
   rw[ht.1] at this
   exact this
  ·exact wL ht _
 ·exact wL ht _
theorem QF{L:Bool}{t:SetTable}(ht:TT L t):TT L { t with plain:=false }:=ht
section
variable{prog:Program}{w:World}{K:Type}[DecidableEq K]{knd:KeyKind prog w K}{A:Around}{E:Value→Shared→Prop}{s:Shared}{L:Bool}{a:Addr}{S:K→Bool}{n:Nat}{k:K}{x:Value}
noncomputable def SetT(knd:KeyKind prog w K)(L:Bool)(h:Heap)(a:Addr)(S:K→Bool)(n:Nat):Prop:=
 ∃o es ep t,h.get? a=some o∧o.ExactSet∧o.data=.set es ep t∧ElemsOf knd es.toList∧(∀k,S k=true↔∃e∈es.toList,knd.is k e.2=true)∧es.size<scanBound∧t.fits es.size=true∧es.size=n∧TT L t
theorem SetT.at{h h':Heap}(q:SetT knd L h a S n)(k:∀o,h.get? a=some o→h'.get? a=some o):SetT knd L h' a S n:=by
 obtain⟨o,es,ep,t,ho,r⟩:=q;exact⟨o,es,ep,t,k _ ho,r⟩
theorem SetT.congr{h:Heap}{S':K→Bool}{n':Nat}(q:SetT knd L h a S n)(e:∀k,S k=S' k)(en:n=n'):SetT knd L h a S' n':=by
 have:S=S':=funext e
 subst this;subst en;exact q
theorem stored{h:Heap}{o:Obj}{es:Array (Int×Value)}{ep:Nat}{t:SetTable}(ho:h.get? a=some o)(hx:o.ExactSet)(hd:o.data=.set es ep t){es':Array (Int×Value)}{t':SetTable}{S':K→Bool}(p1:ElemsOf knd es'.toList)
  (p2:∀k,S' k=true↔∃e∈es'.toList,knd.is k e.2=true) (p3:es'.size<scanBound) (p4:t'.fits es'.size=true) (p5:TT L t') :
  (h.update a (Obj.putSet es' t')).get? a=some { o with data:=.set es' (ep+1) t' }∧SetT knd L (h.update a (Obj.putSet es' t')) a S' es'.size:=by
 obtain⟨g,_⟩:=SetOf_store (knd:=knd) ho hx hd p1 p2 p3 p4
 exact⟨g,_,es',ep+1,t',g,hx,rfl,p1,p2,p3,p4,rfl,p5⟩
theorem JG{g:Bool→Sem Unit}(hg:∀(b:Bool) (s1:Shared) (Q:Unit→Shared→Prop),Q () s1→wpAny (model prog w) A (g b) Q E s1){o:Obj}{es:Array (Int×Value)}{ep:Nat}{t:SetTable}(ho:s.heap.get? a=some o)(hx:o.ExactSet)(hd:o.data=.set es ep t)
  {es1:Array (Int×Value)} {t2:SetTable} {S':K→Bool} (p1:ElemsOf knd es1.toList) (p2:∀k,S' k=true↔∃e∈es1.toList,knd.is k e.2=true) (p3:es1.size<scanBound) (p4:t2.fits es1.size=true) (p5:TT L t2) {wasDummy:Bool} {R:Option Bool→Shared→Prop}
  (q:∀h',Heap.SameBut a s.heap h'→SetT knd L h' a S' es1.size→R (some true) { s with heap:=h' }) :
  wpAny (model prog w) A (do
    storeSet a es1 t2
    if (!wasDummy&&t2.tooFull)=true then do
        g (relayAll t2 es1 (SetTable.grown es1.size)).2.2
        storeSet a (relayAll t2 es1 (SetTable.grown es1.size)).1 (relayAll t2 es1 (SetTable.grown es1.size)).2.1
        pure (some true)
     else pure (some true)) R E s:=by
 obtain⟨g1,g2⟩:=stored (knd:=knd) ho hx hd p1 p2 p3 p4 p5
 have sb:=Heap.SameBut.update s.heap a (Obj.putSet es1 t2)
 refine wpAny_bind (wpAny_storeSet_of ho hd ?_ (fits_of_scanBound p3))
 split
 ·have r1:=relayAll_perm t2 es1 (SetTable.grown es1.size);have r2:=relayAll_fits t2 es1 (SetTable.grown es1.size);have r3:=W9 p5 es1 (SetTable.grown es1.size)
  generalize relayAll t2 es1 (SetTable.grown es1.size)=Z at r1 r2 r3 ⊢
  obtain⟨es2,t3,gv⟩:=Z
  dsimp only at r1 r2 r3 ⊢
  have z:es2.size=es1.size:=by rw[← length_toList,r1.length_eq,length_toList]
  have p3':es2.size<scanBound:=by lia
  refine wpAny_bind (hg _ _ _ (wpAny_bind (wpAny_storeSet_of g1 rfl ?_ (fits_of_scanBound p3'))))
  obtain⟨_,u⟩:=stored (knd:=knd) (L:=L) g1 hx rfl (p1.perm r1) (fun k'=>(p2 k').trans ⟨fun ⟨e,he,y⟩=>⟨e,r1.mem_iff.mpr he,y⟩,fun ⟨e,he,y⟩=>⟨e,r1.mem_iff.mp he,y⟩⟩) p3' r2 r3
  rw[z] at u
  exact wpAny_pure (q _ (sb.trans (Heap.SameBut.update _ a _)) u)
 ·exact wpAny_pure (q _ sb g2)
theorem addOk{Q:Bool→Shared→Prop}(hkey:knd.is k x=true)(hsc:x.scannable=true)(hS:SetT knd L s.heap a S n)(hroom:n+1<scanBound)
  (q:∀h',Heap.SameBut a s.heap h'→SetT knd L h' a (fun k'=>S k'||decide (k'=k)) (if S k then n else n+1)→Q (!S k) { s with heap:=h' }):wpAny (model prog w) A (setAddHashed a x (knd.hash k)) Q E s:=by
 obtain⟨o,es,ep,t,ho,hx,hd,hel,hmem,hb,hf,hn,hT⟩:=hS
 have hb1:es.size+1<scanBound:=by lia
 unfold setAddHashed setAddHashedIn;refine wpAny_holding (wpAny_bind (wpAny_setState_of ho hd hf ?_))
 dsimp only;rw[byScan_of hsc hb hel];simp only[↓reduceIte];unfold setAddByScan
 refine wpAny_bind (wpAny_bind (wpAny_rule (wpAny_bind (wpAny_setScan_of hkey ho hd hf hel ?_))))
 cases hr:List.findIdx? (fun e=>knd.is k e.2) es.toList with
 |some j=>
  obtain⟨hj,hpj,_⟩:=List.findIdx?_eq_some_iff_getElem.mp hr
  have hSk:S k=true:=(hmem k).mpr ⟨es.toList[j],getElem_mem hj,hpj⟩
  have u:=q s.heap (Heap.SameBut.refl a s.heap) ⟨o,es,ep,t,ho,hx,hd,hel,fun k'=>by
   rw[Bool.or_eq_true,decide_eq_true_eq,← hmem k'];exact⟨fun z=>z.elim id (fun e=>e ▸ hSk),.inl⟩,hb,hf,by rw[hSk];exact hn,hT⟩
  rw[hSk] at u
  dsimp only
  exact wpAny_pure (wpAny_pure u)
 |none=>
  have hSk:S k=false:=by
   cases hk:S k with
   |false=>rfl
   |true=>obtain⟨e,he,hp⟩:=(hmem k).mp hk;have:=List.findIdx?_eq_none_iff.mp hr e he;rw[hp] at this;cases this
  have gw:∀(b:Bool) (s1:Shared) (Q':Unit→Shared→Prop),Q' () s1→wpAny (model prog w) A (match b with|true=>rule "set.scan.the-table-gave-way" |false=>pure ()) Q' E s1:=fun b s1 Q' hq=>by
   cases b <;> first|exact wpAny_pure hq|exact wpAny_rule hq
  have l1:=layNew_perm t es (knd.hash k) x;have l2:=layNew_fits t es (knd.hash k) x;have l3:=Q0 hT es (knd.hash k) x
  dsimp only
  generalize layNew t es (knd.hash k) x=Z at l1 l2 l3 ⊢
  obtain⟨es1,t1,wd,gv⟩:=Z
  dsimp only at l1 l2 l3 ⊢
  rw[Array.toList_push] at l1
  have p1:ElemsOf knd es1.toList:=(hel.push hkey hsc).perm l1
  have p2:∀k',(S k'||decide (k'=k))=true↔∃e∈es1.toList,knd.is k' e.2=true:=mem_push_iff hkey hmem l1
  have z1:es1.size=n+1:=by rw[← length_toList,l1.length_eq,length_append,length_toList,hn];rfl
  have p3:es1.size<scanBound:=by lia
  have fin:∀h',Heap.SameBut a s.heap h'→SetT knd L h' a (fun k'=>S k'||decide (k'=k)) es1.size→Q true { s with heap:=h' }:=fun h' sb u=>by
   have v:=q h' sb;rw[hSk] at v;rw[z1] at u;exact v u
  refine wpAny_bind (gw _ _ _ ?_)
  split
  ·refine wpAny_bind ?_
   rw[hashByValue_scannable 8 hsc]
   refine wpAny_pure (JG (L:=L) gw ho hx hd p1 p2 p3 ?_ ?_ fun h' sb u=>wpAny_pure (fin h' sb u))
   ·split
    ·exact l2
    ·exact SetTable.fits_plain_off l2
   ·split
    ·exact l3
    ·exact QF l3
  ·refine wpAny_bind (wpAny_pure ?_)
   simp only[↓reduceIte]
   exact JG (L:=L) gw ho hx hd p1 p2 p3 l2 l3 fun h' sb u=>wpAny_pure (fin h' sb u)
end
open PyProof.Rows
section
variable{prog:Program}{w:World}{A:Around}{R:Result→Shared→Prop}{I:Addr}{fp wr:List Addr}{G:Array GenState→Array GenState→Prop}{n:Nat}{P:Nat→Value→Prop}{St:Nat→Shared→Prop}{L:Bool}
end
noncomputable def ww(w:World):Bool:=!w.params.followText "set-order"
section
variable{prog:Program}{w:World}{A:Around}{E:Value→Shared→Prop}{s:Shared}
theorem newT(a:Value){Q₁:Value→Shared→Prop}
  (h:Q₁ (.ref s.heap.objs.size) { s with heap:=s.heap.push { cls:=.type "set", dict:=none,data:=.set #[] 0 (.fresh 0 0 (ww w)) } }) :
  codeAny (model prog w) A (.call (.builtin "set.__new__") ⟨[.type "set", a],[]⟩) (wants Q₁ E) s:=by
 refine codeAny_of_tree ?_
 show wpAny _ A.in1 (do checkBuiltinCall "set.__new__" ⟨[.type "set", a],[]⟩;again (.builtin "set.__new__" ⟨[.type "set", a],[]⟩)) _ _ s
 refine wpAny_bind (wpAny_of_eq (PySem.F.newCall_set_1 a) (wpAny_pure ⟨plainId_quiet PySem.F.plain_set_new _,codeAny_builtin PySem.F.entry_set_new ?_⟩))
 rw[Around.under_plainId PySem.F.plain_set_new _];unfold Builtin.«set.__new__» Builtin.Frozenset.newClass;have hsub:=sub_set_self
 obtain⟨hp,g,d,tk,os⟩:=s;dsimp only
 wp_walk
 refine wpAny_askSetting (wpAny_pure ?_);dsimp only;simp only[newObj]
 exact wpAny_bind (wpAny_alloc (wpAny_pure (wpAny_pure h)))
end
open PyProof.Rows
section
variable{prog:Program}{w:World}{A:Around}{E:Value→Shared→Prop}{s:Shared}
noncomputable abbrev fm(ns:List Int)(n:Nat):List Int:=firstMet (fun i=>ns.getD i 0) n
noncomputable abbrev vj(b:Bool):Obj:={ cls:=.type "set", dict:=none,data:=.set #[] 0 (.fresh 0 0 b) }
end
open PyProof.Rows
namespace FS
theorem slot_next:Slot "set_iterator" "__next__" "set_iterator.__next__" := .of (owner := "set_iterator") (n := "__next__") (by rw[typeLookup_type,builtinLookup_eq_fast];kernel_rfl) (by decide +kernel) (by decide +kernel) (by decide +kernel) (by first|exact .inl (by decide +kernel) | exact .inr (by decide +kernel)) (by rw[isSubtype_type];kernel_rfl)
theorem slot_self:Slot "set_iterator" "__iter__" "set_iterator.__iter__" := .of (owner := "set_iterator") (n := "__iter__") (by rw[typeLookup_type,builtinLookup_eq_fast];kernel_rfl) (by decide +kernel) (by decide +kernel) (by decide +kernel) (by first|exact .inl (by decide +kernel) | exact .inr (by decide +kernel)) (by rw[isSubtype_type];kernel_rfl)
theorem entry_next:entryFor table "set_iterator.__next__" = some Builtin.«set_iterator.__next__»:=entryFor_of_fast (by kernel_rfl)
theorem entry_self:entryFor table "set_iterator.__iter__" = some Builtin.«dict_keyiterator.__iter__»:=entryFor_alias (id' := "dict_keyiterator.__iter__") (by kernel_rfl) rfl (by decide +kernel) (by kernel_rfl)
theorem entry_iter:entryFor table "set.__iter__" = some Builtin.«frozenset.__iter__»:=entryFor_alias (id' := "frozenset.__iter__") (by kernel_rfl) rfl (by decide +kernel) (by kernel_rfl)
theorem args_next(a:Value):argsOk "set_iterator.__next__" ⟨[a],[]⟩:=by unfold argsOk;kernel_rfl
theorem args_self(a:Value):argsOk "set_iterator.__iter__" ⟨[a],[]⟩:=by unfold argsOk;kernel_rfl
end FS
section
variable{prog:Program}{w:World}{A:Around}{E:Value→Shared→Prop}{s:Shared}
structure SetAt(h:Heap)(a:Addr)(es:Array (Int×Value))(ep:Nat)(t:SetTable):Prop where
 ex:∃o,h.get? a=some o∧o.ExactSet∧o.data=.set es ep t
 fit:t.fits es.size=true
theorem SetAt.at{h h':Heap}{a:Addr}{es:Array (Int×Value)}{ep:Nat}{t:SetTable}(q:SetAt h a es ep t)(k:∀o,h.get? a=some o→h'.get? a=some o):SetAt h' a es ep t:=by
 obtain⟨⟨o,h1,h2⟩,f⟩:=q;exact⟨⟨o,k o h1,h2⟩,f⟩
end
open PySem PyProof.Rows
section
variable{prog:Program}{w:World}{A:Around}{E:Value→Shared→Prop}{s:Shared}{I a:Addr}{es:Array (Int×Value)}{ep:Nat}{t:SetTable}{Q:Option Value→Shared→Prop}
noncomputable abbrev xS(f:Value)(i:Nat)(z:Value)(n ep:Nat):Obj:={ cls:=.type "set_iterator", dict:=none,data:=.fields #[f,.int i 0,z,.int n 0,.int ep 0],slots:=#[] }
theorem vR{f z:Value}{i n:Nat}(h:s.heap.get? I=some (xS f i z n ep)):s.TypeIs (.ref I) "set_iterator" := ⟨_,h,rfl⟩
theorem QJ{sl i nx:Nat}{x:Value}(hit:s.heap.get? I=some (xS (.int sl 0) i (.ref a) es.size ep))(hS:SetAt s.heap a es ep t)(hnx:∀(A':Around) (Q':Option (Value×Nat)→Shared→Prop) (E':Value→Shared→Prop),Q' (some (x,nx)) s→wpAny (model prog w) A' (setNext a sl i ep) Q' E' s)
  (hQ:∀h',h'.get? I=some (xS (.int nx 0) (i+1) (.ref a) es.size ep)→Heap.SameBut I s.heap h'→Q (some x) { s with heap:=h' }):wpAny (model prog w) A (pyNext (.ref I)) Q E s:=by
 obtain⟨⟨o,ho,_,hd⟩,hf⟩:=hS
 unfold pyNext
 refine wpAny_bind (wpAny_attempt (wpAny_callSpecial?_slot (name:=Str.ofString "__next__") (vR hit) FS.slot_next (wpAny_call_entry FS.slot_next (vR hit) FS.entry_next ?_ (FS.args_next _))))
 show wpAny _ _ (fieldsOf (.ref I) >>= _) _ _ s
 refine wpAny_bind (wpAny_fieldsOf hit rfl ?_)
 show wpAny _ _ (setEntries a >>= _) _ _ s
 refine wpAny_bind (wpAny_setEntries_of ho hd hf ?_)
 rw[if_neg (by simp)]
 show wpAny _ _ (setNext a (sl:Int).toNat (i:Int).toNat (ep:Int).toNat >>= _) _ _ s
 simp only[toNat_natCast]
 refine wpAny_bind (hnx _ _ _ ?_)
 refine wpAny_bind (wpAny_setField_rec hit (by simp) fun h1 g1 b1=>wpAny_bind (wpAny_setField_rec g1 (by simp) fun h2 g2 b2=>?_))
 exact wpAny_pure ⟨x,rfl,wpAny_pure (hQ h2 g2 (b1.trans b2))⟩
theorem Tf{sl i:Nat}(hh:A.handled=none)(hit:s.heap.get? I=some (xS (.int sl 0) i (.ref a) es.size ep))(hS:SetAt s.heap a es ep t)(hnx:∀(A':Around) (Q':Option (Value×Nat)→Shared→Prop) (E':Value→Shared→Prop),Q' none s→wpAny (model prog w) A' (setNext a sl i ep) Q' E' s)
  (hQ:∀h',(∀b o,b≠I→s.heap.get? b=some o→h'.get? b=some o)→Q none { s with heap:=h' }):wpAny (model prog w) A (pyNext (.ref I)) Q E s:=by
 obtain⟨⟨o,ho,_,hd⟩,hf⟩:=hS
 unfold pyNext
 refine wpAny_bind (wpAny_attempt (wpAny_callSpecial?_slot (name:=Str.ofString "__next__") (vR hit) FS.slot_next (wpAny_call_entry FS.slot_next (vR hit) FS.entry_next ?_ (FS.args_next _))))
 show wpAny _ _ (fieldsOf (.ref I) >>= _) _ _ s
 refine wpAny_bind (wpAny_fieldsOf hit rfl ?_)
 show wpAny _ _ (setEntries a >>= _) _ _ s
 refine wpAny_bind (wpAny_setEntries_of ho hd hf ?_)
 rw[if_neg (by simp)]
 show wpAny _ _ (setNext a (sl:Int).toNat (i:Int).toNat (ep:Int).toNat >>= _) _ _ s
 simp only[toNat_natCast]
 refine wpAny_bind (hnx _ _ _ (wpAny_bind (wpAny_setField_rec hit (by simp) fun h1 g1 b1=>wpAny_bind ?_)))
 simp only[newExc,newTuple];refine wpAny_bind (wpAny_newObj_type ?_ (by size_fits))
 refine wpAny_bind (m:=firstArgMember _ _) (wpAny_of_eq (a:=Value.none) (by first|rfl | (simp only[firstArgMember];rfl)) (wpAny_newObj_type ?_ (by size_fits)))
 simp only[raiseNew];refine wpAny_bind (wpAny_handled ?_)
 rw[show A.in1.handled=none from hh];refine wpAny_bind (wpAny_pure (wpAny_throw ?_))
 refine wpAny_bind (wpAny_isInstance (T := "StopIteration") (b:=true) ⟨_,Heap.get?_push_size _ rfl,rfl⟩ isSubtype_stop (wpAny_pure (hQ _ fun b o n e=>?_)))
 exact get?_push_of_some _ (get?_push_of_some _ (by rw[b1.2 b n];exact e))
theorem XW(hh:A.handled=none)(hne:a≠I)(ord:List Value)(hl:ord.length=es.size)(fst:Nat→Nat)
  (hnx:∀(i:Nat) (s':Shared) (A':Around) (Q':Option (Value×Nat)→Shared→Prop) (E':Value→Shared→Prop),i≤es.size→SetAt s'.heap a es ep t→Q' ((ord[i]?).map fun x=>(x,fst (i+1))) s'→wpAny (model prog w) A' (setNext a (fst i) i ep) Q' E' s') :
  Walks prog w A I [I,a] [I] es.size (fun i v=>ord[i]?=some v) (fun i h=>h.get? I=some (xS (.int (fst i) 0) i (.ref a) es.size ep)∧SetAt h a es ep t) where
 sub:=fun b hb=>by simp at hb;simp[hb]
 frame:=fun _ _ _ st hk=>⟨hk I (by simp) _ st.1,st.2.at fun o e=>hk a (by simp) o e⟩
 item:=fun i s Q E hi st hQ=>by
  have e:ord[i]?=some ord[i]:=by simp[hl,hi]
  refine QJ (x:=ord[i]) (nx:=fst (i+1)) st.1 st.2 (fun A' Q' E' q=>hnx i s A' Q' E' (by lia) st.2 (by rw[e];exact q)) fun h' g b=>?_
  exact hQ _ h' s.toks e ⟨g,st.2.at fun o z=>by rw[b.2 a hne];exact z⟩ fun b' o hb z=>by rw[b.2 b' (fun y=>hb (by simp[y]))];exact z
 done:=fun s Q E st hQ=>by
  have e:ord[es.size]?=none:=by simp[hl]
  exact Tf hh st.1 st.2 (fun A' Q' E' q=>hnx es.size s A' Q' E' (le_refl _) st.2 (by rw[e];exact q)) fun h' k=>hQ h' s.toks fun b o hb z=>k b o (fun y=>hb (by simp[y])) z
 self:=fun i s Q E st hQ=>by
  refine wpAny_pyIter_slot (vR st.1) FS.slot_self (wpAny_call_entry FS.slot_self (vR st.1) FS.entry_self ?_ (FS.args_self _))
  show wpAny _ _ (ret (.ref I)) _ _ s
  exact wpAny_pure ⟨_,rfl, "set_iterator", _,vR st.1,FS.slot_next.lookup,hQ⟩
end
open PySem PyProof.Rows
theorem vm{α:Type}:∀(l:List α) (i:Nat) (h:i<l.length),(l[i]::l.eraseIdx i).Perm l
 |[],i,h=>by simp at h
 |a::l,0,h=>by simp
 |a::l,i+1,h=>by
  have ih:=vm l i (by simpa using h)
  rw[List.eraseIdx_cons_succ,List.getElem_cons_succ]
  exact(List.Perm.swap a _ _).trans (ih.cons a)
theorem Wf{α:Type}(next:Nat→Nat):∀(fuel k:Nat) (left:List α) (out:Array α),left.length≤fuel→(pickOrder.go next fuel k left out).toList.Perm (out.toList++left):=by
 intro l_
 induction l_ with
 |zero=>
  rintro k left out h
  have:left=[]:=List.eq_nil_of_length_eq_zero (by lia)
  subst this
  unfold pickOrder.go;simp
 |succ fuel ih_=>
  rintro k left out h
  unfold pickOrder.go
  cases q:left[next k%left.length]? with
  |none=>
   have:left=[]:=by
    cases left with
    |nil=>rfl
    |cons a l=>
     have hlt:next k%(a::l).length<(a::l).length:=Nat.mod_lt _ (by simp)
     rw[getElem?_eq_getElem hlt] at q;cases q
   subst this
   simp
  |some x=>
   have hlt:next k%left.length<left.length:=(List.getElem?_eq_some_iff.mp q).1
   refine(ih_ (k+1) _ _ (by rw[List.length_eraseIdx_of_lt hlt];lia)).trans ?_
   rw[Array.toList_push,append_assoc]
   refine List.Perm.append_left _ ?_
   have hx:left[next k%left.length]=x:=(List.getElem?_eq_some_iff.mp q).2
   show(x::left.eraseIdx (next k%left.length)).Perm left
   rw[← hx]
   exact vm _ _ hlt
theorem j7{α:Type}(next:Nat→Nat)(xs:Array α):(pickOrder next xs).toList.Perm xs.toList:=by
 unfold pickOrder
 have:=Wf next xs.size 0 xs.toList #[] (by simp)
 simpa using this
section
variable{prog:Program}{w:World}{A:Around}{E:Value→Shared→Prop}{s:Shared}{I a:Addr}{es:Array (Int×Value)}{ep:Nat}{t:SetTable}
theorem JD{src:Source}{n:Nat}{Q:Nat→Shared→Prop}(hn:n≠0)(h:∀i d',i<n→Q i { s with drawn:=d' }):wpAny (model prog w) A (choose src n) Q E s:=
 fun Γ p hΓ=>⟨hn,h _ _ (Nat.mod_lt _ (Nat.pos_of_ne_zero hn))⟩
theorem Jv{α:Type}:∀(n:Nat) (xs:List α) (s:Shared) (Q:List α→Shared→Prop),xs.length=n→(∀l d',l.Perm xs→Q l { s with drawn:=d' })→wpAny (model prog w) A (drawOrder n xs) Q E s
 |0,xs,s,Q,h,q=>by
  have:xs=[]:=List.eq_nil_of_length_eq_zero h
  subst this
  unfold drawOrder
  exact wpAny_pure (q [] s.drawn (List.Perm.refl _))
 |n+1,[],s,Q,h,q=>by simp at h
 |n+1,x::xs,s,Q,h,q=>by
  unfold drawOrder
  refine wpAny_bind (JD (by simp) fun i d' hi=>?_)
  have e:(x::xs)[i]?=some (x::xs)[i]:=getElem?_eq_getElem hi
  rw[e]
  refine wpAny_bind (Jv n _ _ _ (by rw[List.length_eraseIdx_of_lt hi];lia) fun l d'' hp=>?_)
  exact wpAny_pure (q _ d'' ((hp.cons _).trans (vm _ _ hi)))
theorem MN(hb:w.params.followText "set-order" = true)(i:Nat)(s':Shared)(A':Around)(Q':Option (Value×Nat)→Shared→Prop)(E':Value→Shared→Prop)(hS:SetAt s'.heap a es ep t)
  (q:Q' ((((pickOrder (w.params.setOrder a ep) es).toList.map (·.2))[i]?).map fun x=>(x,0)) s'):wpAny (model prog w) A' (setNext a 0 i ep) Q' E' s':=by
 obtain⟨⟨o,ho,_,hd⟩,hf⟩:=hS
 unfold setNext setsByText
 refine wpAny_bind (wpAny_setState_of ho hd hf ?_)
 refine wpAny_bind (wpAny_bind (wpAny_askSetting (wpAny_pure ?_)))
 show wpAny _ _ (if w.params.followText "set-order" = true then _ else _) _ _ _
 rw[if_pos hb,if_neg (by simp)]
 unfold setWalk setsByText
 refine wpAny_bind (wpAny_bind (wpAny_setState_of ho hd hf ?_))
 refine wpAny_bind (wpAny_bind (wpAny_askSetting (wpAny_pure ?_)))
 show wpAny _ _ (if w.params.followText "set-order" = true then _ else _) _ _ _
 rw[if_pos hb]
 refine wpAny_bind (wpAny_askSetting (wpAny_pure (wpAny_pure ?_)))
 have e:((pickOrder (w.params.setOrder a ep) es)[i]?).map (fun e=>(e.2,0))=(((pickOrder (w.params.setOrder a ep) es).toList.map (·.2))[i]?).map fun x=>(x,0):=by
  rw[getElem?_map,Option.map_map,getElem?_toList];rfl
 rw[← e] at q
 exact q
noncomputable def we(t:SetTable)(i:Nat):Nat:=if i=0 then 0 else t.place.toList.getD (i-1) 0+1
theorem VC{L:Bool}(hT:TT L t)(i:Nat)(hi:i≤t.place.size):SetTable.below t.place (we t i)=i:=by
 obtain⟨b1,b2,b3⟩:=Y9 hT.2.2 (we t i)
 generalize SetTable.below t.place (we t i)=p at *
 unfold we at b2 b3
 by_cases z:i=0
 ·rw[if_pos z] at b2
  rcases Nat.eq_zero_or_pos p with y|y
  ·lia
  ·have:=b2 0 y;lia
 ·rw[if_neg z] at b2 b3
  rcases Nat.lt_trichotomy p i with y|y|y
  ·have:=b3 (i-1) (by lia) (by lia);lia
  ·exact y
  ·have h1:=b2 i y
   have h2:=uO hT.2.2 (i:=i-1) (k:=i) (by lia) (by have:=length_toList (xs:=t.place);lia)
   lia
theorem QH(hb:w.params.followText "set-order" = false)(hT:TT (ww w) t)(hnd:(!t.plain&&decide (es.size > 1))=false)(i:Nat)(s':Shared)(A':Around)(Q':Option (Value×Nat)→Shared→Prop)(E':Value→Shared→Prop)(hi:i≤es.size)(hS:SetAt s'.heap a es ep t)
  (q:Q' (((es.toList.map (·.2))[i]?).map fun x=>(x,we t (i+1))) s'):wpAny (model prog w) A' (setNext a (we t i) i ep) Q' E' s':=by
 obtain⟨⟨o,ho,_,hd⟩,hf⟩:=hS
 have hsz:t.place.size=es.size:=by
  unfold SetTable.fits at hf
  simp at hf;exact hf.1
 have hled:t.led=true:=by rw[hT.1];unfold ww;rw[hb];rfl
 unfold setNext setsByText
 refine wpAny_bind (wpAny_setState_of ho hd hf ?_)
 refine wpAny_bind (wpAny_bind (wpAny_askSetting (wpAny_pure ?_)))
 show wpAny _ _ (if w.params.followText "set-order" = true then _ else _) _ _ _
 rw[if_neg (by rw[hb];simp)]
 show wpAny _ _ (if (!t.plain&&decide (es.size > 1))=true then _ else _) _ _ _
 rw[if_neg (by rw[hnd];simp)]
 show wpAny _ _ ((if (!t.led && !es.isEmpty)=true then unsupported "set:maker-not-led" else pure ()) >>= _) _ _ _
 rw[if_neg (by rw[hled];simp)]
 refine wpAny_bind (wpAny_pure ?_)
 show wpAny _ _ (pure (match es[SetTable.below t.place (we t i)]?,t.place[SetTable.below t.place (we t i)]? with|some (_,x),some j=>some (x,j+1) | _,_=>none)) _ _ _
 rw[VC hT i (by lia)]
 by_cases z:i<es.size
 ·have e1:es[i]?=some es[i]:=by simp[z]
  have e2:t.place[i]?=some (t.place.toList.getD i 0):=by
   have:i<t.place.size:=by lia
   simp[this]
  rw[e1,e2]
  have e3:((es.toList.map (·.2))[i]?).map (fun x=>(x,we t (i+1)))=some (es[i].2,t.place.toList.getD i 0+1):=by
   rw[getElem?_map,getElem?_toList,e1]
   simp[we]
  rw[e3] at q
  exact wpAny_pure q
 ·have e1:es[i]?=none:=by simp;lia
  rw[e1]
  have e3:((es.toList.map (·.2))[i]?).map (fun x=>(x,we t (i+1)))=none:=by
   rw[getElem?_map,getElem?_toList,e1];rfl
  rw[e3] at q
  exact wpAny_pure q
end
open PySem PyProof.Rows
section
variable{prog:Program}{w:World}{A:Around}{E:Value→Shared→Prop}{s:Shared}{I a T:Addr}{es:Array (Int×Value)}{ep:Nat}{t:SetTable}{Q:Option Value→Shared→Prop}
noncomputable abbrev ux(pl:List Nat):Obj:={ cls:=.type "tuple", dict:=none,data:=.seq (pl.map fun (i:Nat)=>rawInt i).toArray 0,slots:=#[] }
theorem GJ{pl:List Nat}{i:Nat}:(pl.map fun (i:Nat)=>rawInt i).toArray[i]?=(pl[i]?).map fun (p:Nat)=>rawInt p:=by
 rw[List.getElem?_toArray,getElem?_map]
theorem VG{x:Value}{p i:Nat}(hS:SetAt s.heap a es ep t)(hx:(es.toList.map (·.2))[p]?=some x){Q:Value→Shared→Prop}(q:Q x s):wpAny (model prog w) A (setNextDrawn a p ep) Q E s:=by
 obtain⟨⟨o,ho,_,hd⟩,hf⟩:=hS
 unfold setNextDrawn
 refine wpAny_bind (wpAny_setState_of ho hd hf ?_)
 dsimp only
 rw[if_neg (by simp)]
 rw[getElem?_map,getElem?_toList] at hx
 cases z:es[p]? with
 |none=>rw[z] at hx;cases hx
 |some y=>rw[z] at hx;cases hx;exact wpAny_pure q
theorem QI{pl:List Nat}{i p:Nat}{x:Value}(hit:s.heap.get? I=some (xS (.ref T) i (.ref a) es.size ep))(hT:s.heap.get? T=some (ux pl))(hS:SetAt s.heap a es ep t)(hp:pl[i]?=some p)(hx:(es.toList.map (·.2))[p]?=some x)
  (hQ:∀h',h'.get? I=some (xS (.ref T) (i+1) (.ref a) es.size ep)→Heap.SameBut I s.heap h'→Q (some x) { s with heap:=h' }):wpAny (model prog w) A (pyNext (.ref I)) Q E s:=by
 obtain⟨⟨o,ho,_,hd⟩,hf⟩:=id hS
 unfold pyNext
 refine wpAny_bind (wpAny_attempt (wpAny_callSpecial?_slot (name:=Str.ofString "__next__") (vR hit) FS.slot_next (wpAny_call_entry FS.slot_next (vR hit) FS.entry_next ?_ (FS.args_next _))))
 show wpAny _ _ (fieldsOf (.ref I) >>= _) _ _ s
 refine wpAny_bind (wpAny_fieldsOf hit rfl ?_)
 show wpAny _ _ (setEntries a >>= _) _ _ s
 refine wpAny_bind (wpAny_setEntries_of ho hd hf ?_)
 rw[if_neg (by simp)]
 show wpAny _ _ (seqItems? (.ref T) >>= _) _ _ s
 refine wpAny_bind (wpAny_seqItems hT rfl ?_)
 show wpAny _ _ (match (pl.map fun (i:Nat)=>rawInt i).toArray[(i:Int).toNat]? with|some (.int place _)=>_|some _=>_|none=>_) _ _ s
 rw[toNat_natCast,GJ,hp]
 show wpAny _ _ (setNextDrawn a (p:Int).toNat (ep:Int).toNat >>= _) _ _ s
 rw[toNat_natCast,toNat_natCast]
 refine wpAny_bind (VG (i:=i) hS hx (wpAny_bind (wpAny_setField_rec hit (by simp) fun h1 g1 b1=>?_)))
 exact wpAny_pure ⟨x,rfl,wpAny_pure (hQ h1 g1 b1)⟩
theorem Te{pl:List Nat}{i:Nat}(hh:A.handled=none)(hit:s.heap.get? I=some (xS (.ref T) i (.ref a) es.size ep))(hT:s.heap.get? T=some (ux pl))(hS:SetAt s.heap a es ep t)(hp:pl[i]?=none)
  (hQ:∀h',(∀b o,b≠I→s.heap.get? b=some o→h'.get? b=some o)→Q none { s with heap:=h' }):wpAny (model prog w) A (pyNext (.ref I)) Q E s:=by
 obtain⟨⟨o,ho,_,hd⟩,hf⟩:=id hS
 unfold pyNext
 refine wpAny_bind (wpAny_attempt (wpAny_callSpecial?_slot (name:=Str.ofString "__next__") (vR hit) FS.slot_next (wpAny_call_entry FS.slot_next (vR hit) FS.entry_next ?_ (FS.args_next _))))
 show wpAny _ _ (fieldsOf (.ref I) >>= _) _ _ s
 refine wpAny_bind (wpAny_fieldsOf hit rfl ?_)
 show wpAny _ _ (setEntries a >>= _) _ _ s
 refine wpAny_bind (wpAny_setEntries_of ho hd hf ?_)
 rw[if_neg (by simp)]
 show wpAny _ _ (seqItems? (.ref T) >>= _) _ _ s
 refine wpAny_bind (wpAny_seqItems hT rfl ?_)
 show wpAny _ _ (match (pl.map fun (i:Nat)=>rawInt i).toArray[(i:Int).toNat]? with|some (.int place _)=>_|some _=>_|none=>_) _ _ s
 rw[toNat_natCast,GJ,hp]
 refine wpAny_bind (wpAny_setField_rec hit (by simp) fun h0 g0 b0=>wpAny_bind (wpAny_setField_rec g0 (by simp) fun h1 g1 b1=>wpAny_bind ?_))
 simp only[newExc,newTuple];refine wpAny_bind (wpAny_newObj_type ?_ (by size_fits))
 refine wpAny_bind (m:=firstArgMember _ _) (wpAny_of_eq (a:=Value.none) (by first|rfl | (simp only[firstArgMember];rfl)) (wpAny_newObj_type ?_ (by size_fits)))
 simp only[raiseNew];refine wpAny_bind (wpAny_handled ?_)
 rw[show A.in1.handled=none from hh];refine wpAny_bind (wpAny_pure (wpAny_throw ?_))
 refine wpAny_bind (wpAny_isInstance (T := "StopIteration") (b:=true) ⟨_,Heap.get?_push_size _ rfl,rfl⟩ isSubtype_stop (wpAny_pure (hQ _ fun b o n e=>?_)))
 exact get?_push_of_some _ (get?_push_of_some _ (by rw[b1.2 b n,b0.2 b n];exact e))
theorem JK(hh:A.handled=none)(hne:a≠I)(hne2:T≠I)(pl:List Nat)(hp:pl.Perm (List.range es.size)) :
  Walks prog w A I [I,a,T] [I] es.size (fun i v=>((pl.filterMap fun p=>(es.toList.map (·.2))[p]?))[i]?=some v) (fun i h=>h.get? I=some (xS (.ref T) i (.ref a) es.size ep)∧SetAt h a es ep t∧h.get? T=some (ux pl)):=by
 have hl:pl.length=es.size:=by rw[hp.length_eq,length_range]
 have hin:∀p∈pl,p<es.size:=fun p h=>by simpa using hp.mem_iff.mp h
 have ev:∀i p,pl[i]?=some p→∃x,(es.toList.map (·.2))[p]?=some x:=fun i p h=>by
  have:=hin p (List.mem_of_getElem? h)
  exact⟨(es.toList.map (·.2))[p]'(by simpa using this),getElem?_eq_getElem _⟩
 have fm:∀(l:List Nat),(∀p∈l,p<es.size)→l.filterMap (fun p=>(es.toList.map (·.2))[p]?)=l.map fun p=>((es.toList.map (·.2)).getD p .none):=fun l=>by
  induction l with
  |nil=>intro _;rfl
  |cons p l ih=>
   intro h
   have h1:=h p mem_cons_self
   have e:(es.toList.map (·.2))[p]?=some ((es.toList.map (·.2)).getD p .none):=by
    have:p<(es.toList.map (·.2)).length:=by simpa using h1
    simp[h1]
   rw[filterMap_cons,e,map_cons,ih fun q hq=>h q (mem_cons_of_mem _ hq)]
 refine⟨fun b hb=>by simp at hb;simp[hb],fun _ _ _ st hk=>⟨hk I (by simp) _ st.1,st.2.1.at fun o e=>hk a (by simp) o e,hk T (by simp) _ st.2.2⟩,fun i s Q E hi st hQ=>?_,fun s Q E st hQ=>?_,fun i s Q E st hQ=>?_⟩
 ·have e:pl[i]?=some pl[i]:=by simp[hl,hi]
  obtain⟨x,hx⟩:=ev i _ e
  refine QI (x:=x) st.1 st.2.2 st.2.1 e hx fun h' g b=>?_
  refine hQ _ h' s.toks ?_ ⟨g,st.2.1.at fun o z=>by rw[b.2 a hne];exact z,by rw[b.2 T hne2];exact st.2.2⟩ fun b' o hb z=>by rw[b.2 b' (fun y=>hb (by simp[y]))];exact z
  show(pl.filterMap fun p=>(es.toList.map (·.2))[p]?)[i]?=some x
  rw[fm pl hin,getElem?_map,e]
  have:(es.toList.map (·.2)).getD pl[i] .none=x:=by rw[List.getD_eq_getElem?_getD,hx];rfl
  rw[← this];rfl
 ·exact Te hh st.1 st.2.2 st.2.1 (by simp[hl]) fun h' k=>hQ h' s.toks fun b o hb z=>k b o (fun y=>hb (by simp[y])) z
 ·refine wpAny_pyIter_slot (vR st.1) FS.slot_self (wpAny_call_entry FS.slot_self (vR st.1) FS.entry_self ?_ (FS.args_self _))
  show wpAny _ _ (ret (.ref I)) _ _ s
  exact wpAny_pure ⟨_,rfl, "set_iterator", _,vR st.1,FS.slot_next.lookup,hQ⟩
end
open PySem PyProof.Rows
section
variable{prog:Program}{w:World}{A:Around}{E:Value→Shared→Prop}{s:Shared}{a:Addr}{es:Array (Int×Value)}{ep:Nat}{t:SetTable}
theorem WM(l:List Value):∀(ps:List Nat),(∀p∈ps,p<l.length)→ps.filterMap (fun p=>l[p]?)=ps.map fun p=>l.getD p .none:=by
 intro l_
 induction l_ with
 |nil=>
  rintro _
  exact rfl
 |cons p ps ih_=>
  rintro h
  have h1:=h p mem_cons_self
  have e:l[p]?=some (l.getD p .none):=by simp[h1]
  rw[filterMap_cons,e,map_cons,ih_ fun q hq=>h q (mem_cons_of_mem _ hq)]
noncomputable def Tt(prog:Program)(w:World)(vs:List Value)(h0:Heap)(a I:Addr)(h1:Heap):Prop:=
 ∃(fp:List Addr) (St:Nat→Heap→Prop) (ord:List Value),ord.Perm vs∧(∀A':Around,A'.handled=none→Walks prog w A' I fp [I] vs.length (fun i v=>ord[i]?=some v) St)∧St 0 h1∧(∀b∈fp,b<h1.objs.size∧(b=a∨h0.objs.size≤b))∧I∈fp∧h0.objs.size≤I∧(∀b o,h0.get? b=some o→h1.get? b=some o)∧∃o,h1.get? I=some o∧o.cls=.type "set_iterator"
theorem Q4(hS:SetAt s.heap a es ep t)(hT:TT (ww w) t)(hz:es.size<scanBound){Q:Value→Shared→Prop}(h:∀I h1 d',Tt prog w (es.toList.map (·.2)) s.heap a I h1→Q (.ref I) { s with heap:=h1,drawn:=d' }):wpAny (model prog w) A (pyIter (.ref a)) Q E s:=by
 obtain⟨⟨o,ho,hx,hd⟩,hf⟩:=id hS
 have ty:s.TypeIs (.ref a) "set" := ⟨o,ho,hx.1⟩
 have hlt:a<s.heap.objs.size:=Heap.lt_size ho
 have hlen:(es.toList.map (·.2)).length=es.size:=by simp
 refine wpAny_pyIter_slot ty F.slot_set_iter (wpAny_call_entry F.slot_set_iter ty FS.entry_iter ?_ (F.args_set_iter_1 _))
 unfold Builtin.«frozenset.__iter__»
 refine wpAny_bind (m:=Builtin.Frozenset.slot0 "__iter__" _) (wpAny_of_eq (a:=a) rfl ?_)
 refine wpAny_bind (m:=Builtin.Frozenset.sizeOf a) ?_
 unfold Builtin.Frozenset.sizeOf
 refine wpAny_bind (wpAny_setEntries_of ho hd hf (wpAny_pure ?_))
 refine wpAny_bind (m:=setDrawn a) ?_
 unfold setDrawn setsByText
 refine wpAny_bind (wpAny_setState_of ho hd hf ?_)
 refine wpAny_bind (wpAny_bind (wpAny_askSetting (wpAny_pure (wpAny_pure ?_))))
 show wpAny _ _ (if (!w.params.followText "set-order" && (!t.plain&&decide (es.size > 1)))=true then _ else _) _ _ _
 have fin:∀(f:Value) (h1:Heap) (d':_),SetAt h1 a es ep t→(∀I h2,h2.get? I=some (xS f 0 (.ref a) es.size ep)→I=h1.objs.size→h2=h1.push (xS f 0 (.ref a) es.size ep)→Q (.ref I) { s with heap:=h2,drawn:=d' }) →
   wpAny (model prog w) A.in1 (do ret (← newFields "set_iterator" [f,rawInt 0,.ref a,rawInt es.size,rawInt (← setEpoch a)]):Sem PySem.Fin) (fun fin s'=>∃v,fin=.done (.ret v)∧∃T r,s'.TypeIs v T∧typeLookup (.type T) (Str.ofString "__next__")=pure (some r)∧Q v s') E { s with heap:=h1,drawn:=d' }:=fun f h1 d' hS1 q=>by
  obtain⟨⟨o1,ho1,_,hd1⟩,hf1⟩:=hS1
  refine wpAny_bind (wpAny_setEpoch_of ho1 hd1 hf1 (wpAny_bind (wpAny_newObj_type ?_)))
  refine wpAny_pure ⟨_,rfl, "set_iterator", _,⟨_,Heap.get?_push_size _ rfl,rfl⟩,FS.slot_next.lookup,q _ _ (Heap.get?_push_size _ rfl) rfl rfl⟩
 by_cases hb:w.params.followText "set-order" = true
 ·rw[if_neg (by rw[hb];simp)]
  refine wpAny_bind (wpAny_pure (fin (rawInt 0) s.heap s.drawn hS fun I h2 g e1 e2=>?_))
  refine h I h2 s.drawn ⟨[I,a],fun i h=>h.get? I=some (xS (.int ((0:Nat):Int) 0) i (.ref a) es.size ep)∧SetAt h a es ep t,(pickOrder (w.params.setOrder a ep) es).toList.map (·.2),(j7 _ _).map _,fun A' hh=>?_,⟨g,hS.at fun o z=>by rw[e2];exact get?_push_of_some _ z⟩,fun b hm=>?_,by simp,by rw[e1];exact le_refl _,fun b o z=>by rw[e2];exact get?_push_of_some _ z,_,g,rfl⟩
  ·rw[hlen]
   exact XW (t:=t) (ep:=ep) hh (by rw[e1];exact ne_of_lt hlt) _ (by rw[length_map,(j7 _ _).length_eq];simp) (fun _=>0) fun i s' A' Q' E' _ hS' q=>MN hb i s' A' Q' E' hS' q
  ·rw[e2,Heap.size_push]
   rcases mem_cons.mp hm with rfl|hm
   ·rw[e1];exact⟨lt_succ_self _,.inr (le_refl _)⟩
   ·obtain rfl:=mem_singleton.mp hm;exact⟨lt_succ_of_lt hlt,.inl rfl⟩
 ·have hb':w.params.followText "set-order" = false:=by simpa using hb
  by_cases hn:(!t.plain&&decide (es.size > 1))=true
  ·rw[if_pos (by rw[hb',hn];rfl)]
   refine wpAny_bind (Jv es.size (List.range es.size) s _ length_range fun pl d' hp=>wpAny_bind (wpAny_newObj_type ?_ ?_))
   ·have hS1:SetAt (s.heap.push (ux pl)) a es ep t:=hS.at fun o z=>get?_push_of_some _ z
    refine fin (.ref s.heap.objs.size) (s.heap.push (ux pl)) d' hS1 fun I h2 g e1 e2=>?_
    have gT:h2.get? s.heap.objs.size=some (ux pl):=by rw[e2];exact get?_push_of_some _ (Heap.get?_push_size _ rfl)
    have sz:(s.heap.push (ux pl)).objs.size=s.heap.objs.size+1:=Heap.size_push _ _
    refine h I h2 d' ⟨[I,a,s.heap.objs.size],fun i h=>h.get? I=some (xS (.ref s.heap.objs.size) i (.ref a) es.size ep)∧SetAt h a es ep t∧h.get? s.heap.objs.size=some (ux pl),pl.filterMap (fun p=>(es.toList.map (·.2))[p]?),?_,fun A' hh=>?_,⟨g,hS1.at fun o z=>by rw[e2];exact get?_push_of_some _ z,gT⟩,fun b hm=>?_,by simp,by rw[e1,sz];exact le_succ _,fun b o z=>by rw[e2];exact get?_push_of_some _ (get?_push_of_some _ z),_,g,rfl⟩
    ·refine(hp.filterMap _).trans ?_
     have:(List.range es.size).filterMap (fun p=>(es.toList.map (·.2))[p]?)=es.toList.map (·.2):=by
      rw[← hlen]
      generalize es.toList.map (·.2)=l
      rw[WM l _ fun p hp=>mem_range.mp hp]
      refine ext_getElem (by simp) fun i h1 h2=>?_
      simp[h2]
     rw[this]
    ·rw[hlen]
     exact JK (t:=t) hh (by rw[e1,sz];exact ne_of_lt (lt_succ_of_lt hlt)) (by rw[e1,sz];exact ne_of_lt (lt_succ_self _)) pl hp
    ·rw[e2,Heap.size_push,sz]
     rcases mem_cons.mp hm with rfl|hm
     ·rw[e1,sz];exact⟨lt_succ_self _,.inr (le_succ _)⟩
     ·rcases mem_cons.mp hm with rfl|hm
      ·exact⟨lt_succ_of_lt (lt_succ_of_lt hlt),.inl rfl⟩
      ·obtain rfl:=mem_singleton.mp hm;exact⟨lt_succ_of_lt (lt_succ_self _),.inr (le_refl _)⟩
   ·show(pl.map fun (i:Nat)=>rawInt i).toArray.size≤sizeLine
    rw[size_toArray,length_map,hp.length_eq,length_range]
    exact fits_of_scanBound hz
  ·have hn':(!t.plain&&decide (es.size > 1))=false:=by simpa using hn
   rw[if_neg (by rw[hn'];simp)]
   refine wpAny_bind (wpAny_pure (fin (rawInt 0) s.heap s.drawn hS fun I h2 g e1 e2=>?_))
   refine h I h2 s.drawn ⟨[I,a],fun i h=>h.get? I=some (xS (.int ((we t i:Nat):Int) 0) i (.ref a) es.size ep)∧SetAt h a es ep t,es.toList.map (·.2),List.Perm.refl _,fun A' hh=>?_,⟨g,hS.at fun o z=>by rw[e2];exact get?_push_of_some _ z⟩,fun b hm=>?_,by simp,by rw[e1];exact le_refl _,fun b o z=>by rw[e2];exact get?_push_of_some _ z,_,g,rfl⟩
   ·rw[hlen]
    exact XW (t:=t) (ep:=ep) hh (by rw[e1];exact ne_of_lt hlt) _ hlen (we t) fun i s' A' Q' E' hi hS' q=>QH hb' hT hn' i s' A' Q' E' hi hS' q
   ·rw[e2,Heap.size_push]
    rcases mem_cons.mp hm with rfl|hm
    ·rw[e1];exact⟨lt_succ_self _,.inr (le_refl _)⟩
    ·obtain rfl:=mem_singleton.mp hm;exact⟨lt_succ_of_lt hlt,.inl rfl⟩
end
open PySem PyProof.Rows
section
variable{prog:Program}{w:World}{A:Around}{E:Value→Shared→Prop}{s:Shared}{a:Addr}{es:Array (Int×Value)}{ep:Nat}{t:SetTable}
noncomputable abbrev emp:Obj:={ cls:=.type "list", data:=.seq ([]:List Value).toArray }
theorem Gg(hS:SetAt s.heap a es ep t){Q:Bool→Shared→Prop}(q:Q false s):wpAny (model prog w) A (Builtin.List.listLengthHint (.ref a)) Q E s:=by
 obtain⟨⟨o,ho,hx,hd⟩,hf⟩:=hS
 have ty:s.TypeIs (.ref a) "set" := ⟨o,ho,hx.1⟩
 unfold Builtin.List.listLengthHint
 refine wpAny_bind (wpAny_specialOf ty F.slot_set_len.lookup ?_)
 have e1:splitId "set.__len__" = some ("set", "__len__"):=by kernel_rfl
 dsimp only
 rw[e1]
 dsimp only
 refine wpAny_bind (wpAny_isInstance ty sub_set_self ?_)
 rw[if_neg (by simp),if_pos (by kernel_rfl)]
 refine wpAny_bind (wpAny_typeOf ty ?_)
 exact wpAny_pure q
end
open PySem PyProof.Rows
section
variable{prog:Program}{w:World}{A:Around}{E:Value→Shared→Prop}{s:Shared}{a:Addr}{es:Array (Int×Value)}{ep:Nat}{t:SetTable}
theorem XQ(hS:SetAt s.heap a es ep t)(hT:TT (ww w) t)(hz:es.size<scanBound)(hh:A.handled=none){Q:List Value→Shared→Prop}(q:∀(ord:List Value) h' d' tk,ord.Perm (es.toList.map (·.2))→(∀b o,s.heap.get? b=some o→h'.get? b=some o)→s.heap.objs.size<h'.objs.size→Q ord { s with heap:=h',drawn:=d',toks:=tk }) :
  wpAny (model prog w) A (collect (.ref a)) Q E s:=by
 obtain⟨⟨o,ho,hx,hd⟩,hf⟩:=id hS
 have hlt:a<s.heap.objs.size:=Heap.lt_size ho
 unfold collect
 refine wpAny_bind (wpAny_runValue (codeAny_builtin F.entry_proto_collect ?_));rw[Around.under_plainId F.plain_proto_collect _]
 show wpAny _ A.in1 (newList [] >>= fun l=>again (.builtin "list.__iadd__" ⟨[l,.ref a],[]⟩)) _ _ s
 refine wpAny_bind (wpAny_newObj_type (wpAny_pure ⟨plainId_quiet F.plain_list_iadd _,codeAny_builtin F.entry_list_iadd ?_⟩));rw[Around.under_plainId F.plain_list_iadd _]
 have hS1:SetAt (s.heap.push emp) a es ep t:=hS.at fun o z=>get?_push_of_some _ z
 show wpAny _ A.in1 (Builtin.List.listExtendWith (.ref s.heap.objs.size) (.ref a) (.ref s.heap.objs.size)) _ _ _
 unfold Builtin.List.listExtendWith
 refine wpAny_bind (wpAny_typeOf (T := "set") ⟨o,get?_push_of_some _ ho,hx.1⟩ ?_)
 have c1:Builtin.List.listSameRef (.ref s.heap.objs.size) (.ref a)=false:=by
  have:s.heap.objs.size≠a:=ne_of_gt hlt
  simp[Builtin.List.listSameRef,this]
 have c2:(Value.type "set" == Value.type "list")=false:=by decide
 have c3:(Value.type "set" == Value.type "tuple")=false:=by decide
 simp only[c1,c2,c3,Bool.or_false,Bool.false_eq_true,if_false]
 refine wpAny_bind (Q4 (s:={ s with heap:=s.heap.push emp }) hS1 hT hz fun I h1 d' W=>?_)
 obtain⟨fp,St,ord,w1,w2,w3,w4,w5,w6,w7,_⟩:=W
 have sz1:(s.heap.push emp).objs.size=s.heap.objs.size+1:=Heap.size_push _ _
 have hlen:(es.toList.map (·.2)).length=es.size:=by simp
 refine wpAny_bind (wpAny_holding (Gg (s:={ s with heap:=h1,drawn:=d' }) (hS1.at fun o z=>w7 a o z) ?_))
 rw[if_pos (by kernel_rfl)]
 refine wpAny_bind (wpAny_rule (wpAny_bind ?_))
 show wpAny _ A.in1 (updateSeq s.heap.objs.size (·.push .none) >>= fun _=>updateSeq s.heap.objs.size (·.pop)) _ _ _
 have g1:h1.get? s.heap.objs.size=some emp:=w7 _ _ (Heap.get?_push_size _ rfl)
 refine wpAny_bind (wpAny_updateSeq g1 rfl ?_)
 have g2:=Heap.get?_update_self (Obj.mapSeq (·.push Value.none)) g1 rfl
 refine wpAny_updateSeq g2 rfl ?_
 have g3:=Heap.get?_update_self (Obj.mapSeq (·.pop)) g2 rfl
 have oth:∀b o,b≠s.heap.objs.size→h1.get? b=some o→((h1.update s.heap.objs.size (Obj.mapSeq (·.push Value.none))).update s.heap.objs.size (Obj.mapSeq (·.pop))).get? b=some o:=fun b o hb e=>
  (Heap.get?_update_other _ _ (Ne.symm hb)).trans ((Heap.get?_update_other _ _ (Ne.symm hb)).trans e)
 have W':=(w2 A.in1 (by simp[hh])).toS
 have hSf:s.heap.objs.size∉fp:=fun hm=>by
  rcases (w4 _ hm).2 with e|e
  ·exact lt_irrefl _ (e ▸ hlt)
  ·have e':(s.heap.push emp).objs.size≤s.heap.objs.size:=e
   rw[sz1] at e';exact Nat.not_succ_le_self _ e'
 have st1:=W'.frame 0 { s with heap:=h1,drawn:=d' } ((h1.update s.heap.objs.size (Obj.mapSeq (·.push Value.none))).update s.heap.objs.size (Obj.mapSeq (·.pop))) s.toks w3 (by simp) fun b hb o e=>oth b o (fun h=>hSf (h ▸ hb)) e
 refine wpAny_pure ⟨plainId_quiet F.plain_extend_loop _,codeAny_extend_loopS (A:=A) W' (by rw[hlen];exact fits_of_scanBound hz) _ hSf _ _ 0 _ _ _ rfl (zero_le _) st1 g3 (ItemsOf.nil _) fun s' acc' c' hm hS' hacc=>?_⟩
 show wpAny _ A (load s.heap.objs.size >>= _) _ _ s'
 refine wpAny_bind (wpAny_load hS' (wpAny_pure ?_))
 have eq:s' = { s with heap:=s'.heap,drawn:=d',toks:=s'.toks }:=by
  obtain⟨_,g,d,o,_⟩:=hm
  cases s';simp only at g d o;subst g;subst d;subst o;rfl
 rw[eq]
 have ea:acc'.toList=ord:=by
  refine List.ext_getElem? fun i=>?_
  by_cases hi:i<acc'.size
  ·have:=hacc.2 i (acc'[i]) (by simp[hi])
   rw[this];simp[hi]
  ·have:ord.length=acc'.size:=by rw[w1.length_eq,hacc.1]
   simp[hi,this]
 rw[ea]
 refine q ord _ _ _ w1 (fun b o hb=>hm.heap b o ?_ ?_) (Heap.lt_size hS')
 ·have hb':=Heap.lt_size hb
  intro h
  rcases mem_cons.mp h with e|h
  ·exact lt_irrefl _ (e ▸ hb')
  ·have e:=mem_singleton.mp h
   have e':(s.heap.push emp).objs.size≤I:=w6
   rw[sz1] at e';subst e;exact lt_irrefl _ (lt_of_lt_of_le hb' (Nat.le_of_succ_le e'))
 ·exact oth b o (ne_of_lt (Heap.lt_size hb)) (w7 b o (get?_push_of_some _ hb))
end
open PySem PyProof.Rows
theorem fm_mem(ns:List Int)(x:Int):x∈fm ns ns.length↔x∈ns:=by
 have h:=firstMet_any (fun i=>ns.getD i 0) ns.length x
 have e:(List.range ns.length).map (fun i=>ns.getD i 0)=ns:=ext_getElem (by simp) fun i h1 h2=>by simp[h2]
 rw[e] at h
 have a:∀l:List Int,l.any (· == x)=true↔x∈l:=fun l=>by simp
 rw[← a,h,a]
section
variable{prog:Program}{w:World}{A:Around}{E:Value→Shared→Prop}{s:Shared}{a:Addr}{ns:List Int}{n:Nat}
end
end STW
set_option Elab.async false
set_option linter.all false
set_option maxRecDepth 100000
namespace FD
open PySem PySem.Spec PyProof.Rows L2
variable[Tabs]
section
variable{X:Cx}{e:Expr}{pos:Pos}{fs:FA}
theorem Vw{pins:List (Addr×Obj)}{σ:St}{H:Hp}{s:Shared}(d:Drawn)(I:Inv X pins σ H s):Inv X pins σ H { s with drawn:=d }:=
 ⟨I.ok,I.os,I.bare,I.base,I.loc,I.cell,I.free,I.freeC,I.pin,I.hok,I.len⟩
end
section
variable{X:Cx}
end
end FD
set_option Elab.async false
set_option linter.all false
namespace L2
open PySem PySem.Spec PyProof.Rows
section
variable{κ:Type}[DecidableEq κ]
noncomputable def wS(kvs:List (κ×V))(k:κ):Option V:=(kvs.find? fun kv=>decide (kv.1=k)).map (·.2)
noncomputable def v9(kvs:List (κ×V))(k:κ)(v:V):List (κ×V):=
 if (kvs.any fun kv=>decide (kv.1=k))=true then kvs.map (fun kv=>if kv.1=k then (kv.1,v) else kv) else kvs++[(k,v)]
theorem wz{p:κ×V}{r:List (κ×V)}{k:κ}(e:p.1=k):wS (p::r) k=some p.2:=by simp[wS,find?_cons,e]
theorem wA{p:κ×V}{r:List (κ×V)}{k:κ}(e:¬ p.1=k):wS (p::r) k=wS r k:=by simp[wS,find?_cons,e]
theorem Yc(k:κ):∀kvs:List (κ×V),(kvs.any fun kv=>decide (kv.1=k))=(wS kvs k).isSome:=by
 intro l_
 induction l_ with
 |nil=>
  exact rfl
 |cons p r ih_=>
  rw[any_cons]
  by_cases e:p.1=k
  ·simp only[wz e,decide_eq_true e,Bool.true_or,Option.isSome_some]
  ·rw[wA e,decide_eq_false e,Bool.false_or];exact ih_
theorem uA(kvs:List (κ×V))(k:κ)(v:V):(v9 kvs k v).length≤kvs.length+1:=by
 unfold v9
 split
 ·rw[length_map];lia
 ·rw[length_append,length_cons,List.length_nil];lia
theorem RelO.isSome_eq{o:Option V}{u:Option Value}(r:RelO o u):o.isSome=u.isSome:=by
 cases o with
 |none=>cases u with
  |none=>rfl
  |some _=>exact(show False from r).elim
 |some _=>cases u with
  |none=>exact(show False from r).elim
  |some _=>rfl
theorem RelO.getD{o:Option V}{u:Option Value}{d:V}{d':Value}(r:RelO o u)(rd:RelV d d'):RelV (o.getD d) (u.getD d'):=by
 cases o with
 |none=>cases u with
  |none=>exact rd
  |some _=>exact(show False from r).elim
 |some _=>cases u with
  |none=>exact(show False from r).elim
  |some _=>exact r
theorem KV.val{kvs:List (κ×V)}{vs:List (κ×Value)}(r:KV kvs vs)(k:κ):RelO (wS kvs k) (valueAt vs k):=by
 unfold KV at r
 induction r with
 |nil=>exact True.intro
 | @cons p q ps qs h t ih=>
  obtain⟨h1,h2⟩:=h
  by_cases e:p.1=k
  ·have e':q.1=k:=h1.symm.trans e
   have b:valueAt (q::qs) k=some q.2:=by simp[valueAt,find?_cons,e']
   rw[wz e,b];exact h2
  ·have e':¬ q.1=k:=fun z=>e (h1.trans z)
   have b:valueAt (q::qs) k=valueAt qs k:=by simp[valueAt,find?_cons,e']
   rw[wA e,b];exact ih
theorem KV.any{kvs:List (κ×V)}{vs:List (κ×Value)}(r:KV kvs vs)(k:κ):(kvs.any fun kv=>decide (kv.1=k))=vs.any fun kv=>decide (kv.1=k):=by
 unfold KV at r
 induction r with
 |nil=>rfl
 |cons h t ih=>rw[any_cons,any_cons,ih,h.1]
theorem KV.repl{kvs:List (κ×V)}{vs:List (κ×Value)}(r:KV kvs vs)(k:κ){y:V}{u:Value}(ry:RelV y u) :
  KV (kvs.map fun kv=>if kv.1=k then (kv.1,y) else kv) (vs.map fun kv=>if kv.1=k then (kv.1,u) else kv):=by
 unfold KV at r ⊢
 induction r with
 |nil=>exact .nil
 | @cons p q ps qs h t ih=>
  rw[map_cons,map_cons]
  refine .cons ?_ ih
  obtain⟨h1,h2⟩:=h
  by_cases e:p.1=k
  ·rw[if_pos e,if_pos (h1.symm.trans e)];exact⟨h1,ry⟩
  ·rw[if_neg e,if_neg (fun z=>e (h1.trans z))];exact⟨h1,h2⟩
theorem KV.put{kvs:List (κ×V)}{vs:List (κ×Value)}(r:KV kvs vs)(k:κ){y:V}{u:Value}(ry:RelV y u):KV (v9 kvs k y) (stored vs k u):=by
 unfold v9 stored
 rw[r.any k]
 by_cases e:(vs.any fun kv=>decide (kv.1=k))=true
 ·rw[if_pos e,if_pos e];exact r.repl k ry
 ·rw[if_neg e,if_neg e];exact Paired.snoc r ⟨rfl,ry⟩
theorem KV.keys{kvs:List (κ×V)}{vs:List (κ×Value)}(r:KV kvs vs):kvs.map (·.1)=vs.map (·.1):=by
 unfold KV at r
 induction r with
 |nil=>rfl
 |cons h t ih=>rw[map_cons,map_cons,ih,h.1]
theorem KV.length{kvs:List (κ×V)}{vs:List (κ×Value)}(r:KV kvs vs):kvs.length=vs.length:=Paired.length r
end
theorem WD{P:Program}{w:World}{k:Key}{u:Value}(r:RelV (kV k) u):(zT P w).is k u=true:=by
 cases k with
 |inl i=>obtain⟨t,e⟩:=(show ∃t,u=Value.int i t from r);subst e;exact YH P w i t
 |inr x=>obtain⟨t,e⟩:=(show ∃t,u=Value.str x t from r);subst e;exact YG P w x t
theorem Zj{P:Program}{w:World}:∀{ks:List Key} {us:List Value},Vals (ks.map kV) us→ItemsAre (zT P w) ks us
 |[],_,r=>by rw[map_nil] at r;cases r;exact .nil
 |k::ks,_,r=>by
  rw[map_cons] at r
  cases r with
  |cons h t=>exact .cons (WD h) (Zj t)
noncomputable abbrev KT(H:Hp):List (List Key×V)→List (List Key×Addr×Value)→Prop:=Paired fun p q=>p.1=q.1∧H q.2.1=some (.tup (p.1.map kV))∧RelV p.2 q.2.2
theorem KT.val{H:Hp}{kvs:List (List Key×V)}{xs:List (List Key×Addr×Value)}(r:KT H kvs xs)(k:List Key):RelO (wS kvs k) ((atKey xs k).map (·.2)):=by
 induction r with
 |nil=>exact True.intro
 | @cons p q ps qs h t ih=>
  obtain⟨h1,_,h2⟩:=h
  by_cases e:p.1=k
  ·have e':q.1=k:=h1.symm.trans e
   have b:atKey (q::qs) k=some q.2:=by simp[atKey,find?_cons,e']
   rw[wz e,b];exact h2
  ·have e':¬ q.1=k:=fun z=>e (h1.trans z)
   have b:atKey (q::qs) k=atKey qs k:=by simp[atKey,find?_cons,e']
   rw[wA e,b];exact ih
theorem KT.repl{H:Hp}{kvs:List (List Key×V)}{xs:List (List Key×Addr×Value)}(r:KT H kvs xs)(k:List Key){y:V}{u:Value}(ry:RelV y u) :
  KT H (kvs.map fun kv=>if kv.1=k then (kv.1,y) else kv) (xs.map (putAt k u)):=by
 induction r with
 |nil=>exact .nil
 | @cons p q ps qs h t ih=>
  rw[map_cons,map_cons]
  refine .cons ?_ ih
  obtain⟨h1,h2,h3⟩:=h
  unfold putAt
  by_cases e:p.1=k
  ·rw[if_pos e,if_pos (h1.symm.trans e)];exact⟨h1,h2,ry⟩
  ·rw[if_neg e,if_neg (fun z=>e (h1.trans z))];exact⟨h1,h2,h3⟩
theorem KT.put{H:Hp}{kvs:List (List Key×V)}{xs:List (List Key×Addr×Value)}(r:KT H kvs xs)(k:List Key){b:Addr}{y:V}{u:Value}(hb:H b=some (.tup (k.map kV)))(ry:RelV y u) :
  KT H (v9 kvs k y) (storedH xs k b u):=by
 have e:(kvs.any fun kv=>decide (kv.1=k))=(atKey xs k).isSome:=by
  rw[Yc,(r.val k).isSome_eq,Option.isSome_map]
 unfold v9 storedH
 rw[e]
 by_cases q:(atKey xs k).isSome=true
 ·rw[if_pos q,if_pos q];exact r.repl k ry
 ·rw[if_neg q,if_neg q];exact Paired.snoc r ⟨rfl,hb,ry⟩
theorem KT.keeps{H H':Hp}{kvs:List (List Key×V)}{xs:List (List Key×Addr×Value)}(r:KT H kvs xs)(ht:∀b ys,H b=some (.tup ys)→H' b=some (.tup ys)):KT H' kvs xs:=
 Paired.mapP r fun _ _ z=>⟨z.1,ht _ _ z.2.1,z.2.2⟩
section
variable{P:Program}{w:World}{H:Hp}{h:Heap}{a:Addr}
theorem GH{u:HO}(ok:HOk P w H h)(e:Rd H a u):ObjOk P w H h a u:=e.ok ok
theorem Y3{kvs:List (Key×V)}(ok:HOk P w H h)(e:Rd H a (.dK kvs)):kvs.length≤sizeLine∧(a==sysModules)=false∧∃vs,KV kvs vs∧h.DictOf (zT P w) a vs:=
 show ObjOk P w H h a (.dK kvs) from GH ok e
theorem WO{kvs:List (Key×V)}(ok:HOk P w H h)(e:H a=some (.dK kvs)):kvs.length≤sizeLine∧(a==sysModules)=false∧∃vs,KV kvs vs∧h.DictOf (zT P w) a vs:=Y3 ok (.inl e)
theorem Z0{ks:List Key}(ok:HOk P w H h)(e:H a=some (.tup (ks.map kV))):(tupleKind (zT P w)).is h ks a:=by
 obtain⟨_,its,r,o,h1,h2,n,h3⟩:=(show ObjOk P w H h a (.tup (ks.map kV)) from ok a _ e)
 exact⟨o,its.toArray,n,h1,h2,h3,by simpa using Zj r⟩
theorem Y1{kvs:List (List Key×V)}(ok:HOk P w H h)(e:Rd H a (.dT kvs)):kvs.length≤sizeLine∧(a==sysModules)=false ∧
  ∃xs,KT H kvs xs∧h.DictOfH (tupleKind (zT P w)) a xs:=by
 obtain⟨z,y,xs,r,o,es,ep,h1,h2,h3,h4,h5⟩:=(show ObjOk P w H h a (.dT kvs) from GH ok e)
 refine⟨z,y,xs,r,o,es,ep,h1,h2,h3,h4,fun x hx=>?_,h5⟩
 have all:∀{l:List (List Key×V)} {m:List (List Key×Addr×Value)},KT H l m→∀x∈m,(tupleKind (zT P w)).is h x.1 x.2.1:=by
  intro l m q
  induction q with
  |nil=>intro x hx;exact nomatch hx
  | @cons p q ps qs hq t ih=>
   intro x hx
   rcases mem_cons.mp hx with e|hx
   ·subst e
    exact Z0 ok (by rw[← hq.1];exact hq.2.1)
   ·exact ih x hx
 exact all r x hx
theorem dt_of{kvs:List (List Key×V)}(ok:HOk P w H h)(e:H a=some (.dT kvs)):kvs.length≤sizeLine∧(a==sysModules)=false ∧
  ∃xs,KT H kvs xs∧h.DictOfH (tupleKind (zT P w)) a xs:=Y1 ok (.inl e)
end
noncomputable def DGet(H:Hp)(a:Addr)(y:V)(r:Option V):Prop:=
 (∃kvs k,Rd H a (.dK kvs)∧y=kV k∧r=wS kvs k)∨∃kvs k b,Rd H a (.dT kvs)∧y=.ref b∧H b=some (.tup (k.map kV))∧r=wS kvs k
noncomputable def DPut(H:Hp)(a:Addr)(y v:V)(H':Hp):Prop:=
 (∃kvs k,H a=some (.dK kvs)∧y=kV k∧kvs.length<sizeLine∧H'=upd H a (.dK (v9 kvs k v))) ∨
 ∃kvs k b,H a=some (.dT kvs)∧y=.ref b∧H b=some (.tup (k.map kV))∧kvs.length<sizeLine∧H'=upd H a (.dT (v9 kvs k v))
theorem DGet.k{H:Hp}{a:Addr}{kvs:List (Key×V)}{k:Key}(e:H a=some (.dK kvs)):DGet H a (kV k) (wS kvs k):=.inl ⟨kvs,k,.inl e,rfl,rfl⟩
theorem DPut.k{H:Hp}{a:Addr}{kvs:List (Key×V)}{k:Key}{v:V}(e:H a=some (.dK kvs))(hl:kvs.length<sizeLine):DPut H a (kV k) v (upd H a (.dK (v9 kvs k v))):=.inl ⟨kvs,k,e,rfl,hl,rfl⟩
section
variable{X:Cx}{pins:List (Addr×Obj)}{σ:St}{H:Hp}{s:Shared}{a:Addr}{y v:V}{u r:Value}{o:Option V}{A:Around}{E:Value→Shared→Prop}
theorem Inv.big(I:Inv X pins σ H s):sysModules<s.heap.objs.size:=by
 have h:mainGlobals<s.heap.objs.size:=(I.mod.glob.keeps I.bk).lt
 exact lt_trans (by decide) h
theorem VI{Q:Value→Shared→Prop}(hu:A.units+1<cLine)(I:Inv X pins σ H s)(g:DGet H a y (some v))(ry:RelV y u)(h:∀w' s',Inv X pins σ H s'→RelV v w'→Q w' s') :
  wpAny (model X.prog X.w) A (getItem (.ref a) u) Q E s:=by
 rcases g with ⟨kvs,k,e,ey,l⟩|⟨kvs,k,b,e,ey,eb,l⟩
 ·subst ey
  obtain⟨z,hd,vs,rel,dd⟩:=Y3 I.hok e
  obtain⟨w',hw,rw'⟩:=RelO.some_of (v:=v) (o:=valueAt vs k) (by rw[l];exact rel.val k)
  exact wpAny_getItem_of (WD ry) dd.mapOf hw (h w' _ (I.tok _) rw')
 ·subst ey
  cases (show u=Value.ref b from ry)
  obtain⟨z,hd,xs,rel,dd⟩:=Y1 I.hok e
  obtain⟨w',hw,rw'⟩:=RelO.some_of (v:=v) (o:=(atKey xs k).map (·.2)) (by rw[l];exact rel.val k)
  obtain⟨p,hp,hp2⟩:=Option.map_eq_some_iff.mp hw
  refine wpAny_getItem_heap (tupleKind_room_in1 hu) (Z0 I.hok eb) dd hp ?_
  rw[hp2]
  exact h w' _ (I.tok _) rw'
theorem WR{h':Heap}{t':Nat}{ob:HO}(I:Inv X pins σ H s)(mu:Mut (H a))(hs:Heap.SameBut a s.heap h')(he:∃q,h'.get? a=some q)(new:ObjOk X.prog X.w (upd H a ob) h' a ob) :
  Inv X pins σ (upd H a ob) { s with heap:=h',toks:=t' }:=
 I.write (x:=a) (e:=a) mu (.inl rfl) (fun b q hb z=>(hs.2 b hb).trans z) he new
theorem Ti{P:Program}{w:World}{H':Hp}{h':Heap}{kvs:List (Key×V)}{vs:List (Key×Value)}(z:kvs.length≤sizeLine)(hd:(a==sysModules)=false)(rel:KV kvs vs)(dd:h'.DictOf (zT P w) a vs) :
  ObjOk P w H' h' a (.dK kvs):=⟨z,hd,vs,rel,dd⟩
theorem VH{H':Hp}{Q:Unit→Shared→Prop}(hu:A.units+1<cLine)(I:Inv X pins σ H s)(g:DPut H a y v H')(ry:RelV y u)(rv:RelV v r)(h:∀s',Inv X pins σ H' s'→Q () s') :
  wpAny (model X.prog X.w) A (setItem (.ref a) u r) Q E s:=by
 rcases g with ⟨kvs,k,e,ey,l,eH⟩|⟨kvs,k,b,e,ey,eb,l,eH⟩
 ·subst ey eH
  obtain⟨z,hd,vs,rel,dd⟩:=WO I.hok e
  have hz:vs.length≤sizeLine:=by rw[← rel.length];exact z
  have hl:(v9 kvs k v).length≤sizeLine:=by have:=uA kvs k v;lia
  refine wpAny_setItem_pairs (hsz:=hz) (WD ry) dd fun h' dd' hs=>h _ ?_
  have he:∃q,h'.get? a=some q:=let ⟨q,_,_,hq,_⟩:=dd';⟨q,hq⟩
  exact WR I (by rw[e];exact True.intro) hs he (Ti hl hd (rel.put k rv) dd')
 ·subst ey eH
  cases (show u=Value.ref b from ry)
  obtain⟨z,hd,xs,rel,dd⟩:=dt_of I.hok e
  have hz:xs.length≤sizeLine:=by rw[← Paired.length rel];exact z
  have hl:(v9 kvs k v).length≤sizeLine:=by have:=uA kvs k v;lia
  refine wpAny_setItem_heap (hsz:=hz) (tupleKind_room_in1 hu) (Z0 I.hok eb) dd fun h' dd' hs=>h _ ?_
  obtain⟨q,es,ep,hq,h2,h3,h4,_,h5⟩:=dd'
  refine WR I (by rw[e];exact True.intro) hs ⟨q,hq⟩ ⟨hl,hd,_,(rel.put k eb rv).keeps fun c ys ec=>?_,q,es,ep,hq,h2,h3,h4,h5⟩
  rw[zg (ne_of ec e (fun z=>nomatch z))]
  exact ec
end
section
variable{X:Cx}{pins:List (Addr×Obj)}{σ:St}{H:Hp}{s:Shared}{a:Addr}{kvs:List (Key×V)}{k:Key}{u:Value}{A:Around}{E:Value→Shared→Prop}
end
noncomputable def Tx(i:Expr):Prop:=∀ov iv,subscripted i false ov iv=operate [ov,iv] (getItem ov iv)
theorem JP{prog:Program}{w:World}{A:Around}{E:Value→Shared→Prop}{s:Shared}{env:Env}{value slice:Expr}{pos:Pos}{T id:String}{Q:Value→Shared→Prop}
  (hl:typeLookup (.type T) "__getitem__" = pure (some (.builtin id))) (hs:Tx slice)
  (h:wpAny (model prog w) A (eval value env) (fun o s₁=>wpAny (model prog w) A (eval slice env) (fun i s₂=>s₂.TypeIs o T∧wpAny (model prog w) A (getItem o i) Q E s₂) E s₁) E s) :
  wpAny (model prog w) A (eval (.Subscript value slice pos) env) Q E s:=by
 refine Subscript_ (wpAny_mono h (fun o s₁ h₁=>wpAny_mono h₁ (fun i s₂ h₂=>?_) fun _ _ x=>x) fun _ _ x=>x)
 obtain⟨hT,h₂⟩:=h₂
 unfold subscriptTail
 refine wpAny_bind ?_
 rw[getitemInPython_of_ne hT.not_modules]
 refine wpAny_bind (wpAny_specialOf hT hl ?_)
 have fin:wpAny (model prog w) A (subscripted slice false o i) (fun r s₃=>wpAny (model prog w) A (letTemporaryGo value o r >>= fun _=>pure r) Q E s₃) E s₂:=by
  rw[hs o i]
  exact wpAny_operating (wpAny_mono h₂ (fun r s₃ h₃=>wpAny_bind (wpAny_letTemporaryGo (wpAny_pure h₃))) fun _ _ x=>x)
 first
  | exact wpAny_pure (wpAny_bind fin)
  | exact wpAny_bind (wpAny_pure (wpAny_bind fin))
  | exact wpAny_bind fin
theorem Y4{X:Cx}{pins:List (Addr×Obj)}{σ:St}{H:Hp}{s:Shared}{a:Addr}{y:V}{o:Option V}(I:Inv X pins σ H s)(g:DGet H a y o):s.TypeIs (.ref a) "dict" := by
 rcases g with ⟨kvs,k,e,_,_⟩|⟨kvs,k,b,e,_,_,_⟩
 ·obtain⟨_,_,vs,_,dd⟩:=Y3 I.hok e
  exact dd.typeIs
 ·obtain⟨_,_,xs,_,dd⟩:=Y1 I.hok e
  exact dd.typeIs
noncomputable def tDGet(td ty:TE):TE:=fun σ H Q=>td σ H fun x H1=>ty σ H1 fun y H2=>∃a v,x=.ref a∧DGet H2 a y (some v)∧Q v H2
noncomputable def sDPut(td ty tv:TE):TS:=fun D σ H=>tv σ H fun v H1=>td σ H1 fun x H2=>ty σ H2 fun y H3=>∃a H4,x=.ref a∧DPut H3 a y v H4∧D.nx σ H4
section
variable{X:Cx}{o i e value:Expr}{pos pos' tpos:Pos}{td ty tv:TE}
theorem Ql(hu:X.A.units+1<cLine)(ho:PE X o td)(hi:PE X i ty)(hs:Tx i):PE X (.Subscript o i pos) (tDGet td ty):=by
 intro pins s σ H Q I h
 refine JP PySem.F.slot_dict_getitem.lookup hs (thn (ho pins s σ H _ I h) fun u s1 ⟨x,H1,I1,rx,q1⟩=>thn (hi pins s1 σ H1 _ I1 q1) fun iv s2 z_=>?_)
 obtain⟨y,H2,I2,ry,a,v,ex,g,q2⟩:=z_
 subst ex
 obtain rfl:u=Value.ref a:=rx
 exact⟨Y4 I2 g,VI hu I2 g ry fun w' s3 I3 rw'=>⟨v,H2,I3,rw',q2⟩⟩
theorem Qe(hu:X.A.units+1<cLine)(ho:PE X o td)(hi:PE X i ty)(hv:PE X value tv)(hs:swapsWith value (some (.Subscript o i pos')) pos.line X.env=pure false) :
  PS X (.Assign [.Subscript o i pos'] value pos) (sDPut td ty tv):=by
 intro pins s σ H D I h
 refine wpAny_Assign_Subscript (thn (hv pins s σ H _ I h) fun r s1 ⟨v,H1,I1,rv,q1⟩=>thn (ho pins s1 σ H1 _ I1 q1) fun u s2 ⟨x,H2,I2,rx,q2⟩=>thn (hi pins s2 σ H2 _ I2 q2) fun iv s3 z_=>?_) hs
 obtain⟨y,H3,I3,ry,a,H4,ex,g,q3⟩:=z_
 subst ex
 obtain rfl:u=Value.ref a:=rx
 exact VH hu I3 g ry rv fun s4 I4=>⟨σ,H4,I4,q3⟩
end
theorem Jw{P:Program}{w:World}{H:Hp}(h:Heap)(hb:sysModules<h.objs.size):ObjOk P w H (h.push { cls:=.type "dict", data:=.dict #[] }) h.objs.size (.dK []):=
 ⟨zero_le _,beq_eq_false_iff_ne.mpr (Ne.symm (ne_of_lt hb)),[],.nil,Heap.DictOf.new h⟩
noncomputable def G7:TE:=fun _ H Q=>∀p,H p=none→Q (.ref p) (upd H p (.dK []))
section
variable{X:Cx}{pos:Pos}
theorem Yw:PE X (.Dict [] [] pos) G7:=fun pins s σ H Q I h=>
 wpAny_Dict_empty ⟨.ref s.heap.objs.size,_,I.laid (a:=s.heap.objs.size) (o:=.dK []) (t':=s.toks) (fun _ _ q=>get?_push_of_some _ q) (le_refl _) (Jw s.heap I.big),rfl,h _ (I.hok.fresh (le_refl _))⟩
end
structure M2(X:Cx)(o:Expr)(m:Str)(apos:Pos)(e f:Expr)(cpos:Pos):Prop where
 base:attributeBase o m X.env (eval o X.env)=eval o X.env
 few:((backTo cpos (starEach [e,f] X.env)).all (fun x=>!x.1)&&(backToKw cpos (keywordEach [] X.env)).all (fun x=>x.1.isSome)
  && decide (([e,f]:List Expr).length+([]:List Keyword).length+(if ([]:List Keyword).isEmpty then 0 else 1)<30))=true
 line:(apos.endLine==cpos.line)=true
 trees:backTo cpos (starEach [e,f] X.env)=[(false,eval e X.env),(false,eval f X.env)]
noncomputable def IsD(H:Hp)(a:Addr):Prop:=(∃kvs,Rd H a (.dK kvs))∨∃kvs,Rd H a (.dT kvs)
theorem Ja{X:Cx}{pins:List (Addr×Obj)}{σ:St}{H:Hp}{s:Shared}{a:Addr}(I:Inv X pins σ H s)(d:IsD H a) :
  s.TypeIs (.ref a) "dict" ∧ (∀b,Value.ref a=.ref b→∃ob,s.heap.get? b=some ob∧ob.dict=none)∧(a==sysModules)=false:=by
 rcases d with ⟨kvs,e⟩|⟨kvs,e⟩
 ·obtain⟨_,hd,vs,_,dd⟩:=Y3 I.hok e
  refine⟨dd.typeIs,fun b q=>?_,hd⟩
  cases q
  obtain⟨ob,_,_,h1,h2,_⟩:=dd
  exact⟨ob,h1,h2.2.1⟩
 ·obtain⟨_,hd,xs,_,dd⟩:=Y1 I.hok e
  refine⟨dd.typeIs,fun b q=>?_,hd⟩
  cases q
  obtain⟨ob,_,_,h1,h2,_⟩:=dd
  exact⟨ob,h1,h2.2.1⟩
section
variable{X:Cx}{pins:List (Addr×Obj)}{σ:St}{H:Hp}{s:Shared}{a:Addr}{y d:V}{u r:Value}{o:Option V}{A:Around}{E:Value→Shared→Prop}
theorem Tk{Q:Value→Shared→Prop}(hu:A.units+1<cLine)(I:Inv X pins σ H s)(g:DGet H a y o)(ry:RelV y u)(rd:RelV d r)(h:∀w' s',Inv X pins σ H s'→RelV (o.getD d) w'→Q w' s') :
  wpAny (model X.prog X.w) A (call (.builtin "dict.get") [.ref a,u,r]) Q E s:=by
 rcases g with ⟨kvs,k,e,ey,l⟩|⟨kvs,k,b,e,ey,eb,l⟩
 ·subst ey
  obtain⟨z,hd,vs,rel,dd⟩:=Y3 I.hok e
  refine call_meetsIn PySem.F.slot_dict_get dd.typeIs PySem.F.entry_dict_get (PySem.F.args_dict_get_3 _ _ _) (meets_dict_get_default (zT X.prog X.w) a (WD ry) hd r) ⟨_,dd.mapOf,h _ _ (I.tok _) ?_⟩
  rw[l]
  exact(rel.val k).getD rd
 ·subst ey
  cases (show u=Value.ref b from ry)
  obtain⟨z,hd,xs,rel,dd⟩:=Y1 I.hok e
  refine call_meetsIn PySem.F.slot_dict_get dd.typeIs PySem.F.entry_dict_get (PySem.F.args_dict_get_3 _ _ _) (meetsH_dict_get_default (tupleKind (zT X.prog X.w)) a b hd r) ⟨tupleKind_room_in1 hu,k,xs,Z0 I.hok eb,dd,h _ _ (I.tok _) ?_⟩
  rw[l]
  exact(rel.val k).getD rd
end
noncomputable def G8(td ty tx:TE):TE:=fun σ H Q=>td σ H fun x H1=>∃a,x=.ref a∧IsD H1 a∧ty σ H1 fun y H2=>tx σ H2 fun z H3=>∃o,DGet H3 a y o∧Q (o.getD z) H3
section
variable{X:Cx}{o e f:Expr}{apos cpos:Pos}{td ty tx:TE}
theorem Yx(hu:X.A.units+1<cLine)(ho:PE X o td)(he:PE X e ty)(hf:PE X f tx)(m:M2 X o "get" apos e f cpos):PE X (.Call (.Attribute o "get" apos) [e,f] [] cpos) (G8 td ty tx):=by
 intro pins s σ H Q I h
 refine wpAny_Call_method m.base m.few m.line PySem.F.plainAttrs_dict PySem.F.slot_dict_get PySem.F.type_dict_get (thn (ho pins s σ H _ I h) fun u s1 z_=>?_)
 obtain⟨x,H1,I1,rx,a,ex,d,q1⟩:=z_
 subst ex
 obtain rfl:u=Value.ref a:=rx
 obtain⟨t1,t2,_⟩:=Ja I1 d
 refine⟨t1,t2,?_⟩
 rw[m.trees]
 refine Calls.callWith_builtin rfl (Calls.evalArgs_plain (Calls.spliced_cons (thn (he pins s1 σ H1 _ I1 q1) fun iv s2 ⟨y,H2,I2,ry,q2⟩=>
  Calls.spliced_cons (thn (hf pins s2 σ H2 _ I2 q2) fun fv s3 ⟨z,H3,I3,rz,ov,g,q3⟩=>Calls.spliced_nil ?_))))
 exact Tk hu I3 g ry rz fun w' s4 I4 rw'=>⟨_,H3,I4,rw',q3⟩
end
section
variable{X:Cx}{pins:List (Addr×Obj)}{σ:St}{H:Hp}{s:Shared}{a:Addr}{kvs:List (Key×V)}{A:Around}{E:Value→Shared→Prop}
end
section
variable{X:Cx}{pins:List (Addr×Obj)}{σ:St}{H:Hp}{s:Shared}{a:Addr}{y:V}{u:Value}{A:Around}{E:Value→Shared→Prop}
end
section
variable{κ:Type}[DecidableEq κ]
end
end L2
set_option Elab.async false
set_option linter.all false
set_option maxRecDepth 100000
namespace STW
open PySem PyProof.Rows
section
variable{prog:Program}{w:World}{K:Type}[DecidableEq K]{knd:KeyKind prog w K}{A:Around}{E:Value→Shared→Prop}{s:Shared}{d:Addr}{kvs:List (K×Value)}{ep:Nat}
end
section
variable{prog:Program}{w:World}{K:Type}[DecidableEq K]{knd:KeyKind prog w K}{A:Around}{E:Value→Shared→Prop}{s:Shared}{d:Addr}{kvs:List (K×Value)}{ep:Nat}{ns:List Int}{b:Bool}
end
end STW
set_option Elab.async false
set_option linter.all false
set_option maxRecDepth 100000
namespace FD
open PySem PySem.Spec PyProof.Rows L2
variable[Tabs]
section
variable{X:Cx}{pos pp kp p1 p2:Pos}{kk:Nat}
end
noncomputable def Vl(τ:DS):Prop:=∀(i:Nat) (s:Sl),τ[i]?=some (some s)→∃d,s=.val d
omit [Tabs] in
theorem Vl.noObj{τ:DS}(v:Vl τ):noObj τ:=fun i s h=>by
 cases s with
 |none=>rfl
 |some s=>obtain⟨d,rfl⟩:=v i s h;rfl
omit [Tabs] in
theorem Vl.set{τ:DS}(v:Vl τ)(i:Nat)(d:D):Vl (τ.set i (some (.val d))):=fun j s h=>by
 rw[getElem?_set] at h
 split at h
 ·split at h
  ·cases h;exact⟨d,rfl⟩
  ·cases h
 ·exact v j s h
noncomputable def Soft(o:Option HO):Prop:=o=none∨(∃vs,o=some (.lst vs))∨∃ks,o=some (.dK ks)
theorem RS.free{K:Frag}{B Z F H:Hp}{τ:DS}{σ:St}{p:Addr}{o:HO}(R:RS K B Z F τ σ H)(v:Vl τ)(hb:B p=none)(hp:F p=none)(hl:Soft (H p))(ho:∀a,o≠.own a:=by intro _ h;cases h):RS K B Z F τ σ (upd H p o):=by
 have ne:∀{a:Addr} {w:HO},H a=some w→(∀vs,w≠.lst vs)→(∀ks,w≠.dK ks)→a≠p:=fun {a w} h n1 n2 z=>by
  subst z
  rcases hl with z|⟨ws,z⟩|⟨ws,z⟩
  ·rw[z] at h;cases h
  ·rw[z] at h;cases h;exact n1 _ rfl
  ·rw[z] at h;cases h;exact n2 _ rfl
 have own:∀(i:Nat) ds,τ[i]?≠some (some (.own ds)):=fun i ds h=>by obtain⟨d,e⟩:=v i _ h;cases e
 have obj:∀(i n:Nat) c fs,τ[i]?≠some (some (.obj n c fs)):=fun i n c fs h=>by obtain⟨d,e⟩:=v i _ h;cases e
 have obr:∀(i:Nat) c fs,τ[i]?≠some (some (.obr c fs)):=fun i c fs h=>by obtain⟨d,e⟩:=v i _ h;cases e
 refine⟨⟨fun b u e=>?_,R.rv.len,R.rv.val,fun i ds h=>absurd h (own i ds),fun i j ds es a _ h=>absurd h (own i ds),⟨fun r hr=>?_,fun d a h=>?_⟩,ObsOk.none v.noObj⟩,fun a u e=>?_,R.zf,R.nb,fun i ds a h=>absurd h (own i ds),fun i n c fs a h=>absurd h (obj i n c fs),fun a0 dx _ _ i n c fs h=>absurd h (obj i _ c fs),fun i c fs a h=>absurd h (obr i c fs)⟩
 ·have:b≠p:=fun z=>by subst z;rw[hp] at e;cases e
  rw[zg this];exact R.rv.fh b u e
 ·obtain⟨t1,t2⟩:=R.rv.tt.1 r hr
  refine⟨t1,?_⟩
  rcases t2 with e|⟨c,e,e2⟩
  ·exact .inl (by rw[zg (ne e (fun _ z=>nomatch z) (fun _ z=>nomatch z))];exact e)
  ·exact .inr ⟨c,by rw[zg (ne e (fun _ z=>nomatch z) (fun _ z=>nomatch z))];exact e,by rw[zg (ne e2 (fun _ z=>nomatch z) (fun _ z=>nomatch z))];exact e2⟩
 ·by_cases z:d=p
  ·subst z;rw[zk] at h;cases h;exact absurd rfl (ho a)
  ·rw[zg z] at h
   obtain⟨C,dx,vs,e⟩:=R.rv.tt.2 d a h
   exact⟨C,dx,vs,by rw[zg (ne e (fun _ z=>nomatch z) (fun _ z=>nomatch z))];exact e⟩
 ·have:a≠p:=fun z=>by subst z;rw[hb] at e;cases e
  rw[zg this];exact R.bh a u e
theorem Js{F H F' H':Hp}{a:Addr}{o:HO}(x:Ext F H F' H')(h:H a=some o)(f:F a=none):F' a=none:=by
 cases q:F' a with
 |none=>rfl
 |some u=>
  rcases x.nw a u q with z|z
  ·rw[f] at z;cases z
  ·rw[h] at z;cases z
section
variable{X:Cx}{i:Nat}{y:Str}{e0 e0' e0'' e1:Expr}{f0 f1:FE}{q1 q2 q3 cp sp sp2 lp ap ip atp callp xp:Pos}
theorem UH{X:Cx}{α:Type}{r:Rs α}{a:α}{P:α→Prop}(h:r=.ok a)(p:P a):Ok X r P:=by rw[h];exact p
theorem UO{B H:Hp}{p:Addr}(h:Hh B H)(e:H p=none):B p=none:=by
 cases q:B p with
 |none=>rfl
 |some o=>exact absurd e (Kp.some (h p o q))
theorem UN{F H:Hp}{p:Addr}(h:Same F H)(e:H p=none):F p=none:=by
 cases q:F p with
 |none=>rfl
 |some o=>have:=h p o q;rw[e] at this;cases this
end
section
variable{X:Cx}{i r:Nat}{x y:Str}{e0 e0' e0'' e1 iter:Expr}{fi:FA}{q1 q2 q3 cp sp sp2 lp ap ip atp callp xp tp pos:Pos}
end
noncomputable def vlB(τ:DS):Bool:=τ.all fun s=>match s with
 |none=>true
 | some (.val _)=>true
 |_=>false
omit [Tabs] in
theorem VP{τ:DS}(h:vlB τ=true):Vl τ:=fun i s e=>by
 have:=all_eq_true.mp h (some s) (List.mem_of_getElem? e)
 cases s with
 |val d=>exact⟨d,rfl⟩
 |_=>cases this
theorem RS.drop{K:Frag}{B Z F H:Hp}{τ:DS}{σ:St}{i:Nat}{v:Option V}(R:RS K B Z F τ σ H)(vl:Vl τ):RS K B Z F (τ.set i none) (σ.set i v) H∧Vl (τ.set i none):=by
 have get:∀(j:Nat) (s:Sl),(τ.set i none)[j]?=some (some s)→i≠j∧τ[j]?=some (some s):=fun j s h=>by
  by_cases z:i=j
  ·subst z
   rw[getElem?_set] at h
   simp only[if_true] at h
   split at h <;> cases h
  ·rw[getElem?_set_ne z] at h;exact⟨z,h⟩
 have vl':Vl (τ.set i none):=fun j s h=>vl j s (get j s h).2
 have own:∀(j:Nat) ds,(τ.set i none)[j]?≠some (some (.own ds)):=fun j ds h=>by obtain⟨d,e⟩:=vl' j _ h;cases e
 have obj:∀(j n:Nat) c fs,(τ.set i none)[j]?≠some (some (.obj n c fs)):=fun j n c fs h=>by obtain⟨d,e⟩:=vl' j _ h;cases e
 have obr:∀(j:Nat) c fs,(τ.set i none)[j]?≠some (some (.obr c fs)):=fun j c fs h=>by obtain⟨d,e⟩:=vl' j _ h;cases e
 refine⟨⟨⟨R.rv.fh,by rw[length_set,length_set];exact R.rv.len,fun j d h=>?_,fun j ds h=>absurd h (own j ds),fun j k ds es a _ h=>absurd h (own j ds),R.rv.tt,ObsOk.none vl'.noObj⟩,R.bh,R.zf,R.nb,fun j ds a h=>absurd h (own j ds),fun j n c fs a h=>absurd h (obj j n c fs),fun a0 dx _ _ j n c fs h=>absurd h (obj j _ c fs),fun j c fs a h=>absurd h (obr j c fs)⟩,vl'⟩
 obtain⟨ne,e⟩:=get j _ h
 obtain⟨w,h1,h2⟩:=R.rv.val j d e
 exact⟨w,by rw[getElem?_set_ne ne];exact h1,h2⟩
section
variable{X:Cx}{i r:Nat}{x y c:Str}{iter elt:Expr}{fi:FA}{body:List Stmt}{scope:Scope}{yp tp dp a1 fp rp cpos cp sp p1 p2 kp:Pos}{kk:Nat}
end
end FD
set_option Elab.async false
set_option linter.all false
set_option maxRecDepth 100000
namespace STW
open PySem PyProof.Rows
theorem MV:∀x y:List Nat,Spec.ltCps x y=false→Spec.ltCps y x=false→x=y:=fun x=>by
 induction x with
 |nil=>
  intro y h1 h2
  cases y with
  |nil=>rfl
  |cons b y=>cases h1
 |cons a x ih=>
  intro y h1 h2
  cases y with
  |nil=>cases h2
  |cons b y=>
   have g1:(decide (a<b)||(a==b&&Spec.ltCps x y))=false:=h1
   have g2:(decide (b<a)||(b==a&&Spec.ltCps y x))=false:=h2
   rw[Bool.or_eq_false_iff,decide_eq_false_iff_not] at g1 g2
   have e:a=b:=by lia
   subst e
   have g3:Spec.ltCps x y=false:=by simpa using g1.2
   have g4:Spec.ltCps y x=false:=by simpa using g2.2
   rw[ih y g3 g4]
theorem U1:∀x y z:List Nat,Spec.ltCps y x=false→Spec.ltCps z y=false→Spec.ltCps z x=false:=fun x=>by
 induction x with
 |nil=>intro y z _ _;cases z <;> rfl
 |cons a x ih=>
  intro y z h1 h2
  cases y with
  |nil=>cases h1
  |cons b y=>
   cases z with
   |nil=>cases h2
   |cons c z=>
    have g1:(decide (b<a)||(b==a&&Spec.ltCps y x))=false:=h1
    have g2:(decide (c<b)||(c==b&&Spec.ltCps z y))=false:=h2
    show(decide (c<a)||(c==a&&Spec.ltCps z x))=false
    rw[Bool.or_eq_false_iff,decide_eq_false_iff_not] at g1 g2 ⊢
    refine⟨by lia,?_⟩
    by_cases e:c=a
    ·have e1:b=a:=by lia
     have e2:c=b:=by lia
     have g3:Spec.ltCps y x=false:=by simpa[e1] using g1.2
     have g4:Spec.ltCps z y=false:=by simpa[e2] using g2.2
     rw[ih y z g3 g4];simp
    ·simp[e]
theorem QZ(x y:List Nat)(h:Spec.ltCps x y=true):Spec.ltCps y x=false:=by
 cases e:Spec.ltCps y x with
 |false=>rfl
 |true=>
  exfalso
  have aux:∀x y:List Nat,Spec.ltCps x y=true→Spec.ltCps y x=true→False:=fun x=>by
   induction x with
   |nil=>intro y _ h2;cases y <;> cases h2
   |cons a x ih=>
    intro y h1 h2
    cases y with
    |nil=>cases h1
    |cons b y=>
     have g1:(decide (a<b)||(a==b&&Spec.ltCps x y))=true:=h1
     have g2:(decide (b<a)||(b==a&&Spec.ltCps y x))=true:=h2
     simp only[Bool.or_eq_true,decide_eq_true_eq,Bool.and_eq_true,beq_iff_eq] at g1 g2
     rcases g1 with g1|⟨e1,g1⟩
     ·rcases g2 with g2|⟨e2,_⟩ <;> lia
     ·rcases g2 with g2|⟨_,g2⟩
      ·lia
      ·exact ih y g1 g2
  exact aux x y h e
noncomputable def leS(a b:Str):Prop:=Spec.ltCps b.cps.toList a.cps.toList=false
theorem Zg{a b c:Str}(h1:leS a b)(h2:leS b c):leS a c:=U1 _ _ _ h1 h2
theorem U0{a b:Str}(h1:leS a b)(h2:leS b a):a=b:=by
 have:=MV _ _ h2 h1
 cases a;cases b
 simp only at this
 congr
 exact Array.toList_inj.mp this
noncomputable def XD(a:Str):List Str→List Str
 |[]=>[a]
 |b::r=>if Spec.ltCps b.cps.toList a.cps.toList=true then b::XD a r else a::b::r
noncomputable def srtS:List Str→List Str
 |[]=>[]
 |a::r=>XD a (srtS r)
theorem Zk(a:Str):∀l,(XD a l).Perm (a::l):=fun l=>by
 induction l with
 |nil=>exact List.Perm.refl _
 |cons b r ih=>
  unfold XD
  split
  ·exact(ih.cons b).trans (List.Perm.swap a b r)
  ·exact List.Perm.refl _
theorem srtS_perm:∀l,(srtS l).Perm l:=fun l=>by
 induction l with
 |nil=>exact List.Perm.refl _
 |cons a r ih=>exact(Zk a _).trans (ih.cons a)
theorem Gb(a:Str):∀l:List Str,l.Pairwise leS→(XD a l).Pairwise leS:=fun l=>by
 induction l with
 |nil=>intro _;simp[XD]
 |cons b r ih=>
  intro h
  have h':=pairwise_cons.mp h
  unfold XD
  split
  ·rename_i z
   refine pairwise_cons.mpr ⟨fun x hx=>?_,ih h'.2⟩
   rcases mem_cons.mp ((Zk a r).mem_iff.mp hx) with rfl|hx
   ·exact QZ _ _ z
   ·exact h'.1 x hx
  ·rename_i z
   have hab:leS a b:=by unfold leS;simpa using z
   refine pairwise_cons.mpr ⟨fun x hx=>?_,h⟩
   rcases mem_cons.mp hx with rfl|hx
   ·exact hab
   ·exact Zg hab (h'.1 x hx)
theorem srtS_up:∀l:List Str,(srtS l).Pairwise leS:=fun l=>by
 induction l with
 |nil=>exact List.Pairwise.nil
 |cons a r ih=>exact Gb a _ ih
theorem upS_perm:∀{l m:List Str},l.Pairwise leS→m.Pairwise leS→l.Perm m→l=m:=fun {l}=>by
 induction l with
 |nil=>intro m _ _ p;rw[List.nil_perm.mp p]
 |cons a l ih=>
  intro m h1 h2 p
  cases m with
  |nil=>have:=p.length_eq;simp at this
  |cons b m=>
   have g1:=pairwise_cons.mp h1
   have g2:=pairwise_cons.mp h2
   have e:a=b:=by
    have ha:a∈b::m:=p.mem_iff.mp mem_cons_self
    have hb:b∈a::l:=p.mem_iff.mpr mem_cons_self
    rcases mem_cons.mp ha with z|z
    ·exact z
    ·rcases mem_cons.mp hb with y|y
     ·exact y.symm
     ·exact U0 (g1.1 b y) (g2.1 a z)
   subst e
   rw[ih g1.2 g2.2 p.cons_inv]
theorem W8:∀(l:List Str) (a:Str),risingS a l=true→(a::l).Pairwise leS:=fun l=>by
 induction l with
 |nil=>intro a _;simp
 |cons b l ih=>
  intro a h
  have h':(!(Spec.ltCps b.cps.toList a.cps.toList)&&risingS b l)=true:=h
  rw[Bool.and_eq_true,Bool.not_eq_true'] at h'
  have p:=ih b h'.2
  have p':=pairwise_cons.mp p
  refine pairwise_cons.mpr ⟨fun x hx=>?_,p⟩
  rcases mem_cons.mp hx with rfl|hx
  ·exact h'.1
  ·exact Zg (show leS a b from h'.1) (p'.1 x hx)
theorem W1{l:List Str}(h:sortedS l=true):l.Pairwise leS:=by
 cases l with
 |nil=>exact List.Pairwise.nil
 |cons a l=>exact W8 l a h
theorem JR{l m:List Str}(p:l.Perm m)(h:sortedS l=true):l=srtS m:=upS_perm (W1 h) (srtS_up m) (p.trans (srtS_perm m).symm)
section
variable{prog:Program}{w:World}{K:Type}[DecidableEq K]{knd:PySem.KeyKind prog w K}{A:Around}{E:Value→Shared→Prop}{s:Shared}{d:Addr}{kvs:List (K×Value)}{ep:Nat}{ss:List Str}
end
end STW
set_option Elab.async false
set_option linter.all false
set_option maxRecDepth 100000
namespace FD
open PySem PySem.Spec PyProof.Rows L2
variable[Tabs]
section
variable{X:Cx}
end
noncomputable abbrev FG2:=DS→List Str→Option (DS×List Str)
section
variable{X:Cx}{i r:Nat}{x y:Str}{e0 iter:Expr}{fk:FE}{fi:FA}{f:FG2}{q1 sp bp ap tp pos:Pos}{kk:Nat}{body:List Stmt}
end
omit [Tabs] in
theorem VQ:∀{vs:List Value} {ns:List Str},StrsAre vs ns→Vals (ns.map V.str) vs:=fun {vs ns} h=>by
 induction h with
 |nil=>exact .nil
 |cons y t _ ih=>exact .cons ⟨t,rfl⟩ ih
theorem Reps.strs{K:Frag}{F:Hp}(ks:List Str):Reps K F (ks.map D.str) (ks.map V.str):=by
 induction ks with
 |nil=>exact Reps.nil
 |cons k ks ih=>exact Reps.cons (by simp only[Rep]) ih
section
variable{X:Cx}{i r:Nat}{x y sx:Str}{iter:Expr}{f:FG2}{st:Stmt}{yp dp a1 rp p1 pos pp:Pos}
end
end FD
set_option Elab.async false
set_option linter.all false
set_option maxRecDepth 100000
namespace STW
open PySem PyProof.Rows
noncomputable def Xa(ks:List Str)(k:Str):List Str:=if ks.any (· == k) then ks else ks++[k]
noncomputable def fmT(val:Nat→Str):Nat→List Str
 |0=>[]
 |n+1=>Xa (fmT val n) (val n)
theorem Jr(val:Nat→Str):fmT val 0=[]:=rfl
theorem wH(val:Nat→Str)(i:Nat):fmT val (i+1)=Xa (fmT val i) (val i):=rfl
theorem vw(ks:List Str)(k:Str):(Xa ks k).length=if ks.any (· == k) then ks.length else ks.length+1:=by
 unfold Xa;split <;> simp
theorem WZ(ks:List Str)(k k':Str):(Xa ks k).any (· == k')=(ks.any (· == k')||decide (k'=k)):=by
 unfold Xa
 split
 ·rename_i h
  by_cases e:k'=k
  ·subst e;rw[h];rfl
  ·simp[e]
 ·rw[List.any_append]
  congr 1
  by_cases e:k'=k
  ·subst e;simp
  ·have e2:¬ k=k':=fun z=>e z.symm
   simp[e,e2]
theorem fmT_le(val:Nat→Str)(n:Nat):(fmT val n).length≤n:=by
 induction n with
 |zero=>exact le_refl _
 |succ n ih=>rw[wH,vw];split <;> lia
section
variable{prog:Program}{w:World}{A:Around}{R:Result→Shared→Prop}{I:Addr}{fp wr:List Addr}{G:Array GenState→Array GenState→Prop}{n:Nat}{P:Nat→Value→Prop}{St:Nat→Shared→Prop}{L:Bool}
theorem VR(W:WalksS prog w A.in1 I fp wr G n P St)(Z:Addr)(hZ:Z∉fp)(val:Nat→Str)(hval:∀i v,P i v→∃t,v=.str (val i) t)(hb:n+1<scanBound) :
  ∀(k i:Nat) (s:Shared),n-i=k→i≤n→St i s→SetT (strKind prog w) L s.heap Z (fun k'=>(fmT val i).any (· == k')) (fmT val i).length →
   (∀s',Moved (Z::wr) G s s'→SetT (strKind prog w) L s'.heap Z (fun k'=>(fmT val n).any (· == k')) (fmT val n).length→R (.ok (.ret .none)) s') →
   codeAny (model prog w) A (.builtin "set.update.loop" ⟨[.ref Z,.ref I],[]⟩) R s:=by
 have hw:Z∉wr:=fun h=>hZ (W.sub _ h)
 have up:∀b∈wr,b∈Z::wr:=fun b h=>mem_cons_of_mem _ h
 intro k
 induction k with
 |zero=>
  intro i s hk hi hst hS hR
  obtain rfl:i=n:=by lia
  refine codeAny_builtin PyProof.Rows.F.entry_set_update_loop ?_
  rw[Around.under_plainId PyProof.Rows.F.plain_set_update_loop _]
  show wpAny _ A.in1 (pyNext (.ref I) >>= _) _ _ s;refine wpAny_bind (W.done s _ _ hst fun s' hm=>?_)
  exact wpAny_pure (hR s' (hm.mono up) (hS.at fun o e=>hm.heap Z _ hw e))
 |succ k ih=>
  intro i s hk hi hst hS hR
  refine codeAny_builtin PyProof.Rows.F.entry_set_update_loop ?_
  rw[Around.under_plainId PyProof.Rows.F.plain_set_update_loop _]
  show wpAny _ A.in1 (pyNext (.ref I) >>= _) _ _ s;refine wpAny_bind (W.item i s _ _ (by lia) hst fun v s' hP hst' hm=>?_)
  obtain⟨t,rfl⟩:=hval i v hP
  have hS1:=hS.at (h':=s'.heap) fun o e=>hm.heap Z _ hw e
  show wpAny _ A.in1 (holding [Value.str (val i) t] (setAdd Z (.str (val i) t)) >>= _) _ _ s';refine wpAny_bind (wpAny_holding ?_)
  unfold setAdd
  refine wpAny_holding (wpAny_bind ((strKind prog w).pyHash (k:=val i) (strKind_is _ _ _ _) ?_))
  have room:(fmT val i).length+1<scanBound:=by have:=fmT_le val i;lia
  refine addOk (knd:=strKind prog w) (s:={ s' with toks:=s'.toks+1 }) (strKind_is _ _ _ _) rfl hS1 room fun h' sb hS2=>?_
  have hS3:=hS2.congr (S':=fun k'=>(fmT val (i+1)).any (· == k')) (n':=(fmT val (i+1)).length) (fun k'=>by rw[wH,WZ]) (by rw[wH,vw])
  refine wpAny_pure ⟨plainId_quiet PyProof.Rows.F.plain_set_update_loop _,ih (i+1) _ (by lia) (by lia) (W.frame _ s' _ _ hst' (le_succ _) fun b hb o e=>?_) hS3 fun s'' hm'' hS''=>?_⟩
  ·rw[sb.2 b (fun h:b=Z=>hZ (by rw[← h];exact hb))];exact e
  ·refine hR s'' (Moved.trans W.gtrans ((hm.mono up).then_heap (le_succ _) fun b o hb e=>?_) hm'') hS''
   rw[sb.2 b (fun h:b=Z=>hb (by rw[h];exact mem_cons_self))];exact e
end
section
variable{prog:Program}{w:World}{A:Around}{E:Value→Shared→Prop}{s:Shared}
noncomputable abbrev fmS(ns:List Str)(n:Nat):List Str:=fmT (fun i=>ns.getD i "") n
noncomputable def AftS(prog:Program)(w:World)(s:Shared)(ns:List Str)(n:Nat)(r:Value)(s2:Shared):Prop:=
 r=.none∧∃h' tk,s2 = { s with heap:=h',toks:=tk }∧SetT (strKind prog w) (ww w) h' s.heap.objs.size (fun k=>(fmS ns n).any (· == k)) (fmS ns n).length∧∀b o,b<s.heap.objs.size→s.heap.get? b=some o→h'.get? b=some o
end
theorem fmT_nodup(val:Nat→Str)(n:Nat):(fmT val n).Nodup:=by
 induction n with
 |zero=>exact List.nodup_nil
 |succ n ih=>
  rw[wH];unfold Xa
  split
  ·exact ih
  ·rename_i h
   have h:val n∉fmT val n:=fun q=>h (any_eq_true.mpr ⟨_,q,by simp⟩)
   exact List.nodup_append.mpr ⟨ih,by simp,fun x hx y hy=>by have:=mem_singleton.mp hy;subst this;exact fun e=>h (e ▸ hx)⟩
theorem Gn(val:Nat→Str)(x:Str)(n:Nat):x∈fmT val n↔∃i,i<n∧val i=x:=by
 induction n with
 |zero=>simp[fmT]
 |succ n ih=>
  rw[wH];unfold Xa
  split
  ·rename_i h
   rw[ih]
   constructor
   ·rintro⟨i,a,b⟩;exact⟨i,by lia,b⟩
   ·rintro⟨i,a,b⟩
    rcases Nat.lt_or_eq_of_le (Nat.le_of_lt_succ a) with z|z
    ·exact⟨i,z,b⟩
    ·subst z
     obtain⟨y,hy,e⟩:=any_eq_true.mp h
     have e:y=val i:=by simpa using e
     rw[e,b] at hy
     exact ih.mp hy
  ·rw[mem_append,ih,mem_singleton]
   constructor
   ·rintro (⟨i,a,b⟩|e)
    ·exact⟨i,by lia,b⟩
    ·exact⟨n,lt_succ_self _,e.symm⟩
   ·rintro⟨i,a,b⟩
    rcases Nat.lt_or_eq_of_le (Nat.le_of_lt_succ a) with z|z
    ·exact .inl ⟨i,z,b⟩
    ·subst z;exact .inr b.symm
theorem fmS_mem(ns:List Str)(x:Str):x∈fmS ns ns.length↔x∈ns:=by
 unfold fmS
 rw[Gn]
 constructor
 ·rintro⟨i,a,rfl⟩
  have:ns.getD i "" = ns[i]:=by simp[a]
  rw[this];exact getElem_mem a
 ·intro h
  obtain⟨i,a,rfl⟩:=List.mem_iff_getElem.mp h
  exact⟨i,a,by simp[a]⟩
theorem XY:∀{vs:List Value},(∀v∈vs,∃k t,v=Value.str k t)→∃ns,StrsAre vs ns:=fun {vs}=>by
 induction vs with
 |nil=>intro _;exact⟨[],.nil⟩
 |cons v vs ih=>
  intro h
  obtain⟨k,t,rfl⟩:=h v mem_cons_self
  obtain⟨ns,hn⟩:=ih fun v hv=>h v (mem_cons_of_mem _ hv)
  exact⟨k::ns,.cons k t hn⟩
theorem V1{vs:List Value}{ns:List Str}(h:StrsAre vs ns)(x:Str):x∈ns↔∃t,Value.str x t∈vs:=by
 induction h with
 |nil=>simp
 |cons y t _ ih=>
  rw[mem_cons,ih]
  constructor
  ·rintro (rfl|⟨u,hu⟩)
   ·exact⟨t,mem_cons_self⟩
   ·exact⟨u,mem_cons_of_mem _ hu⟩
  ·rintro⟨u,hu⟩
   rcases mem_cons.mp hu with e|e
   ·cases e;exact .inl rfl
   ·exact .inr ⟨u,e⟩
theorem strs_map{vs:List Value}{ns:List Str}(h:StrsAre vs ns):ns=vs.map strOf:=h.strs.symm
theorem WY{vs us:List Value}{ns:List Str}(h:StrsAre vs ns)(p:us.Perm vs):∃ms,StrsAre us ms∧ms.Perm ns:=by
 obtain⟨ms,hm⟩:=XY (vs:=us) fun v hv=>h.all v (p.mem_iff.mp hv)
 refine⟨ms,hm,?_⟩
 rw[strs_map hm,strs_map h];exact p.map _
theorem Um:∀{m l:List Str},m.Nodup→(∀x,x∈m→x∈l)→l.length≤m.length→m.Perm l:=fun {m}=>by
 induction m with
 |nil=>intro l _ _ h;rw[List.length_eq_zero_iff.mp (Nat.le_zero.mp h)]
 |cons a m ih=>
  intro l hn hs h
  have h':=nodup_cons.mp hn
  have ha:=hs a mem_cons_self
  refine((ih (l:=l.erase a) h'.2 (fun x hx=>?_) ?_).cons a).trans (List.perm_cons_erase ha).symm
  ·exact(List.mem_erase_of_ne (fun e:x=a=>h'.1 (by rw[← e];exact hx))).mpr (hs x (mem_cons_of_mem _ hx))
  ·rw[List.length_erase_of_mem ha];simp only[length_cons] at h;lia
section
variable{prog:Program}{w:World}{A:Around}{E:Value→Shared→Prop}{s:Shared}{a:Addr}{ns:List Str}{n:Nat}
theorem V8{h:Heap}(hS:SetT (strKind prog w) (ww w) h a (fun k=>(fmS ns ns.length).any (· == k)) (fmS ns ns.length).length) :
  ∃es ep t,SetAt h a es ep t∧TT (ww w) t∧es.size<scanBound∧∃ms,StrsAre (es.toList.map (·.2)) ms∧ms.Perm (fmS ns ns.length):=by
 obtain⟨o,es,ep,t,ho,hx,hd,hel,hmem,hb,hf,hn,hT⟩:=hS
 refine⟨es,ep,t,⟨⟨o,ho,hx,hd⟩,hf⟩,hT,hb,?_⟩
 have isS:∀(k:Str) (v:Value),(strKind prog w).is k v=true→∃t,v=Value.str k t:=fun k v h=>Value.isStrOf_shape h
 obtain⟨ms,hm⟩:=XY (vs:=es.toList.map (·.2)) fun v hv=>by
  obtain⟨e,he,rfl⟩:=mem_map.mp hv
  obtain⟨⟨k,hk,_⟩,_⟩:=hel e he
  obtain⟨t,e⟩:=isS k _ hk
  exact⟨k,t,e⟩
 refine⟨ms,hm,?_⟩
 have mem:∀x,x∈fmS ns ns.length→x∈ms:=fun x hx=>by
  have:=(hmem x).mp (any_eq_true.mpr ⟨x,hx,by simp⟩)
  obtain⟨e,he,hk⟩:=this
  obtain⟨t,z⟩:=isS x _ hk
  exact(V1 hm x).mpr ⟨t,by rw[← z];exact List.mem_map_of_mem he⟩
 have hl:ms.length=es.size:=by
  have:=congrArg List.length (strs_map hm)
  simpa using this
 exact(Um (fmT_nodup _ _) mem (by rw[hl,hn];exact le_refl _)).symm
theorem sortSetS(hh:A.handled=none)(hS:SetT (strKind prog w) (ww w) s.heap a (fun k=>(fmS ns ns.length).any (· == k)) (fmS ns ns.length).length)(h64:ns.length<64){Q:Value→Shared→Prop}
  (q:∀h' d' tk b (out:List Value) e,h'.get? b=some (seqObj "list" out.toArray e)→StrsAre out (srtS (fmS ns ns.length))→s.heap.objs.size≤b→(∀b o,s.heap.get? b=some o→h'.get? b=some o)→Q (.ref b) { s with heap:=h',drawn:=d',toks:=tk }) :
  wpAny (model prog w) A (call (.builtin "sorted") [.ref a]) Q E s:=by
 obtain⟨es,ep,t,hA,hT,hb,ms,hm,hp⟩:=V8 hS
 refine Calls.call_function_entry kind_sorted plain_sorted entry_sorted (args_sorted1 _) ?_
 unfold Builtin.«sorted»
 refine wpAny_bind (m:=checkCount "sorted" 1 1 _) (wpAny_pure ?_)
 refine wpAny_bind (XQ hA hT hb (by simp[hh]) fun ord h1 d' tk po hk hz=>?_)
 obtain⟨ms',hm',hp'⟩:=WY hm po
 have hl:ord.length<64:=by
  have e1:=congrArg List.length (strs_map hm');have e2:=(hp'.trans hp).length_eq;have e3:=fmT_le (fun i=>ns.getD i "") ns.length
  have e2':ms'.length=(fmT (fun i=>ns.getD i "") ns.length).length:=e2
  rw[length_map] at e1
  lia
 refine wpAny_bind (wpAny_newList ?_ (fits_of_scanBound (by rw[po.length_eq,length_map,length_toList];exact hb)))
 have hoL:(h1.push (seqObj "list" ord.toArray 0)).get? h1.objs.size=some (seqObj "list" ord.toArray 0):=Heap.get?_push_size _ rfl
 show wpAny _ _ _ _ _ { s with heap:=h1.push (seqObj "list" ord.toArray 0),drawn:=d',toks:=tk }
 refine wpAny_bind (wpAny_holding (wpAny_call_entry slot_list_sort ⟨_,hoL,rfl⟩ entry_list_sort (list_sort_treeK (s:={ s with heap:=h1.push (seqObj "list" ord.toArray 0),drawn:=d',toks:=tk }) strKind_oneLt hoL hm'.keysOf (fun v1 v2 r e=>?_) hl fun st' a2 a3=>⟨_,rfl,?_⟩) (args_list_sort _)))
 ·subst e;exact keyKind_strs hm'
 obtain⟨ss',b1,b2,b3⟩:=sorted_out_str hm' a2 a3
 have en:ss'=srtS (fmS ns ns.length):=JR (b2.trans (hp'.trans hp)) b3
 subst en
 obtain⟨e,he⟩:=sortedHeap_at (out:=Array.map (fun x=>x.snd) (arrOf st')) hoL
 refine wpAny_pure ⟨_,rfl,q _ _ _ h1.objs.size (Array.map (fun x=>x.snd) (arrOf st')).toList e (by rw[Array.toArray_toList];exact he) b1 (le_of_lt hz) fun b o hb=>?_⟩
 have hb1:=hk b o hb
 have hlt:=Heap.lt_size hb1
 rw[sortedHeap_old (ne_of_lt hlt) (by rw[size_push'];exact lt_succ_of_lt hlt)]
 exact get?_push_of_some _ hb1
end
end STW
set_option Elab.async false
set_option linter.all false
set_option maxRecDepth 100000
namespace FD
open PySem PySem.Spec PyProof.Rows L2
variable[Tabs]
section
variable{X:Cx}{e:Expr}{pos:Pos}{fs:FA}
end
end FD
set_option Elab.async false
set_option linter.all false
set_option maxRecDepth 100000
namespace STW
open PySem PyProof.Rows
section
variable{prog:Program}{w:World}{K:Type}[DecidableEq K]{knd:KeyKind prog w K}{A:Around}{E:Value→Shared→Prop}{s:Shared}{d:Addr}{kvs:List (K×Value)}{ep:Nat}
end
end STW
set_option Elab.async false
set_option linter.all false
set_option maxRecDepth 100000
namespace FD
open PySem PySem.Spec PyProof.Rows L2
theorem Q8{X:Cx}{pins:List (Addr×Obj)}{σ:St}{H:Hp}{s:Shared}{d:Addr}{kvs:List (Key×V)}{o:Obj}(I:Inv X pins σ H s)(e:H d=some (.dK kvs))(ho:s.heap.get? d=some o):Inv X pins σ (upd H d (.frz o (.dK kvs))) s:=by
 have ne:∀{b:Addr} {u:HO},H b=some u→(∀ks,u≠.dK ks)→b≠d:=fun {b u} h n z=>by subst z;rw[e] at h;cases h;exact n _ rfl
 refine I.un (t':=s.toks) ⟨fun b u q _ _ _=>q,fun b u q _ _ _=>⟨u.slots,q⟩,fun b u _ n _=>?_,fun b u q _=>⟨u,q⟩,fun b xs q=>?_,fun b u w q=>?_,fun b ps q=>?_⟩ fun b u q=>?_
 ·rw[zg (fun z=>by subst z;rw[e] at n;cases n)];exact n
 ·rw[zg (ne q fun _ z=>nomatch z)];exact q
 ·rw[zg (ne q fun _ z=>nomatch z)];exact q
 ·exact⟨#[],by rw[zg (ne q fun _ z=>nomatch z)];simpa using q⟩
 ·by_cases hb:b=d
  ·subst hb;rw[zk] at q;cases q
   have z:=I.hok b _ e
   exact⟨ho,z⟩
  ·rw[zg hb] at q
   exact(I.hok b u q).stay (fun c v _ q=>q) (fun c q=>by rw[zg (ne q fun _ z=>nomatch z)];exact q) fun c xs q=>by rw[zg (ne q fun _ z=>nomatch z)];exact q
theorem Mt{X:Cx}{e:Expr}{t:TE}(h:PE X e t):PE X e (fun σ H Q=>t σ H fun v H1=>∃d kvs,v=.ref d∧H1 d=some (.dK kvs)∧∀o,Q v (upd H1 d (.frz o (.dK kvs)))):=fun pins s σ H Q I q=>by
 refine thn (h pins s σ H _ I q) fun u s1 z_=>?_
 obtain⟨v,H1,I1,r1,d,kvs,e1,e2,q2⟩:=z_
 obtain⟨_,_,vs,_,o,es,ep,ho,_⟩:=WO I1.hok e2
 exact⟨v,_,Q8 I1 e2 ho,r1,q2 o⟩
theorem X9{P:Program}{w:World}{k:Key}{u:Value}(h:(zT P w).is k u=true):RelV (kV k) u:=by
 cases k with
 |inl n=>exact Value.isInt_shape h
 |inr x=>exact Value.isStrOf_shape h
noncomputable def Itk(a:Addr)(o:Obj)(kvs:List (Key×V)):It:=
 ⟨fun i H=>H a=some (.frz o (.dK kvs))∧i<kvs.length,fun i H x H'=>H'=H∧∃p,kvs[i]?=some p∧x=kV p.1,fun i H=>H a=some (.frz o (.dK kvs))∧kvs.length≤i⟩
theorem XG{P:Program}{w:World}{H:Hp}{h:Heap}{a:Addr}{o:Obj}{kvs:List (Key×V)}{es:Array DictEntry}{ep:Nat}(hok:HOk P w H h)(e:H a=some (.frz o (.dK kvs)))(hd:o.data=.dict es ep) :
  kvs.length≤sizeLine∧(a==sysModules)=false∧∃vs,KV kvs vs∧h.DictAt (zT P w) a vs ep:=by
 obtain⟨h1,z,hs,vs,r,o',es',ep',h2,h3,h4,h5⟩:=(show ObjOk P w H h a (.frz o (.dK kvs)) from hok a _ e)
 rw[h1] at h2;cases h2
 rw[hd] at h4;cases h4
 exact⟨z,hs,vs,r,o,es,h1,h3,hd,h5⟩
theorem Tc{P:Program}{w:World}{H:Hp}{h:Heap}{a:Addr}{o:Obj}{kvs:List (Key×V)}(hok:HOk P w H h)(e:H a=some (.frz o (.dK kvs))):∃es ep,o.data=.dict es ep:=by
 obtain⟨h1,z,hs,vs,r,o',es',ep',h2,h3,h4,h5⟩:=(show ObjOk P w H h a (.frz o (.dK kvs)) from hok a _ e)
 rw[h1] at h2;cases h2
 exact⟨es',ep',h4⟩
theorem VV{P:Program}{w:World}{K:Frag}{tg:Expr}(a it:Addr)(o:Obj)(kvs:List (Key×V))(es:Array DictEntry)(ep:Nat)(hd:o.data=.dict es ep):jS P w K tg (Itk a o kvs) [it] it (fun i h=>h.IsKeyIter it a i kvs.length ep) where
 mem:=by simp
 obj:=fun i h st b hb=>by
  have e:b=it:=by simpa using hb
  subst e
  obtain⟨o,e,c,d⟩:=st
  exact⟨o,e,fun v z=>by rw[d] at z;cases z⟩
 keep:=fun i h h' st k=>st.at fun o e=>k it (by simp) o e
 item:=by
  intro X hP hw hK hc i pins s σ H E I hf st hg
  subst hP hw hK
  obtain⟨hq,hx⟩:=hg
  obtain⟨z,hs,vs,rel,da⟩:=XG I.hok hq hd
  have hl:=rel.length
  obtain⟨p,hp⟩:∃p,kvs[i]?=some p:=⟨kvs[i],by simp[hx]⟩
  obtain⟨⟨k,x⟩,hv⟩:∃p,vs[i]?=some p:=⟨vs[i]'(by lia),by simp⟩
  have hk:p.1=k:=by
   have:=rel.keys
   have e1:(kvs.map (·.1))[i]?=some p.1:=by rw[getElem?_map,hp];rfl
   rw[this,getElem?_map,hv] at e1
   exact(Option.some.inj e1).symm
  obtain⟨f0,f1,f2,f3,f4,f5⟩:=hf it (by simp)
  refine wpAny_pyNext_dict_item (by rw[← hl];exact st) da hv fun key h' hkey st' sb=>?_
  have I1:Inv X pins σ H { s with heap:=h' }:=I.turned (t':=s.toks) (fun b o hb e=>(sb.2 b hb).trans e) f0 f1 f3 f4 f5
  obtain⟨o',e',c',d'⟩:=id st'
  exact⟨key,rfl,YS (s:={ s with heap:=h' }) e' c' d' (by decide) ⟨kV k,H,I1,X9 hkey,⟨rfl,p,hp,by rw[hk]⟩,by rw[hl];exact st',fun b hb=>(hf b hb).1⟩⟩
 done:=by
  intro X hP hw hK hc i pins s σ H E I hf st hg
  subst hP hw hK
  obtain⟨hq,hx⟩:=hg
  obtain⟨z,hs,vs,rel,da⟩:=XG I.hok hq hd
  have hl:=rel.length
  obtain⟨f0,f1,f2,f3,f4,f5⟩:=hf it (by simp)
  exact wpAny_pyNext_dict_end (I.ok.hd hc) (by rw[← hl];exact st) da (by simp;lia) fun h' eb=>⟨rfl,I.turned (t':=s.toks) (fun b o hb e=>eb b o hb e) f0 f1 f3 f4 f5⟩
 self:=fun _ _ _ _ _ st h=>wpAny_pyIter_keyiter st h
theorem Mj{X:Cx}{tg l:Expr}{tl:TE}(hl:PE X l tl):PI X tg l (fun σ H R=>tl σ H fun x H1=>∃a o kvs,x=.ref a∧H1 a=some (.frz o (.dK kvs))∧R (Itk a o kvs) H1):=by
 intro pins s σ H R I h
 refine thn (hl pins s σ H _ I h) fun v s1 z_=>?_
 obtain⟨x,H1,I1,r1,a,o,kvs,e,hq,q⟩:=z_
 subst e
 cases r1
 obtain⟨es,ep,hd⟩:=Tc I1.hok hq
 obtain⟨z,hs,vs,rel,da⟩:=XG I1.hok hq hd
 refine wpAny_pyIter_dict hs da ?_
 refine⟨s1.heap.objs.size,[s1.heap.objs.size],_,_,H1,rfl,I1.kept (t':=s1.toks) fun b o e=>get?_push_of_some _ e,VV a _ o kvs es ep hd,⟨_,Heap.get?_push_size _ rfl,rfl,by rw[rel.length];rfl⟩,fun b hb=>?_,q⟩
 have e:b=s1.heap.objs.size:=by simpa using hb
 subst e
 exact I1.fpOk (le_refl _) (I1.hok.fresh (le_refl _))
noncomputable def XJ:Key→D
 |.inl i=>.int i
 |.inr x=>.str x
noncomputable def jr:D→Option Key
 |.int i=>some (.inl i)
 |.str x=>some (.inr x)
 |_=>none
theorem J6{K:Frag}{F:Hp}(k:Key):Rep K F (XJ k) (kV k):=by
 cases k with
 |inl i=>show Rep K F (.int i) (.int i);simp only[Rep]
 |inr x=>show Rep K F (.str x) (.str x);simp only[Rep]
theorem WC{K:Frag}{F:Hp}{d:D}{k:Key}{v:V}(h:jr d=some k)(r:Rep K F d v):v=kV k:=by
 cases d <;> first|cases h|skip
 all_goals (simp only[Rep] at r;subst r;rfl)
noncomputable def vi:List Key→List D→Key→Option D
 |k'::ks,d::ds,k=>if k'=k then some d else vi ks ds k
 |_,_,_=>none
theorem YT{K:Frag}{F:Hp}(k:Key):∀{kvs:List (Key×V)} {ks:List Key} {ds:List D},kvs.map (·.1)=ks→Reps K F ds (kvs.map (·.2)) →
  (∀d,vi ks ds k=some d→∃v,wS kvs k=some v∧Rep K F d v)∧(vi ks ds k=none→wS kvs k=none):=fun {kvs}=>by
 induction kvs with
 |nil=>
  intro ks ds h r
  subst h
  refine⟨fun d h=>?_,fun _=>rfl⟩
  rw[map_nil] at h
  unfold vi at h
  cases h
 |cons p kvs ih=>
  intro ks ds h r
  subst h
  cases ds with
  |nil=>have:=r.length;simp at this
  |cons d ds=>
   simp only[map_cons,Reps] at r
   obtain⟨v,r',e,q,t⟩:=r
   cases e
   obtain⟨i1,i2⟩:=ih rfl t
   rw[map_cons]
   unfold vi
   by_cases z:p.1=k
   ·rw[if_pos z]
    exact⟨fun d' h=>by cases h;exact⟨p.2,wz z,q⟩,fun h=>by cases h⟩
   ·rw[if_neg z,wA z]
    exact⟨i1,i2⟩
variable[Tabs]
section
variable{X:Cx}{pos apos cpos:Pos}{e o f tg:Expr}{fe fo ff:FE}
theorem M8{K:Frag}{a:Addr}{ob:Obj}{F1:Hp}{kvs:List (Key×V)}(h:F1 a=some (.frz ob (.dK kvs))):XV K (Itk a ob kvs) F1 ((kvs.map (·.1)).map XJ):=fun i F H f1 f2=>by
 have q:=f2 _ _ (f1 _ _ h)
 refine⟨fun hl=>⟨q,by simpa using hl⟩,fun d hd=>?_⟩
 have hi:i<kvs.length:=by have:=(List.getElem?_eq_some_iff.mp hd).1;simpa using this
 refine⟨⟨q,hi⟩,fun x H' y=>?_⟩
 obtain⟨e1,p,hp,rfl⟩:=y
 subst e1
 refine⟨F,Ext.refl f2,?_⟩
 rw[getElem?_map,getElem?_map,hp] at hd
 cases hd
 exact J6 p.1
noncomputable def jw(fe:FE):FA:=fun τ=>(fe τ).bind fun d=>match d with
 |.dct ks _=>.ok (ks.map XJ)
 |_=>.no
theorem Wk(he:PDE X e fe):PDI X tg e (jw fe):=
 PI.imp (Mj he) fun σ H R z_=>by
  obtain⟨F,τ,Rv,h⟩:=z_
  refine tE.of Rv h.bind fun d v F1 H1 g x R1 r=>?_
  cases d with
  |dct ks ds=>
   simp only[Rep] at r;obtain⟨a,kvs,ob,rfl,q,rfl,t⟩:=r
   exact⟨a,ob,kvs,rfl,R1.fh _ _ q,g _ F1 H1 x (M8 q)⟩
  |_=>exact g.elim
noncomputable def vn(fo fe ff:FE):FE:=fun τ=>(fo τ).bind fun d=>match d with
 |.dct ks ds=>(fe τ).bind fun k=>(ff τ).bind fun z=>match jr k with
  |some k=>.ok ((vi ks ds k).getD z)
  |none=>.no
 |_=>.no
theorem ue(hu:X.A.units+1<cLine)(ho:PDE X o fo)(he:PDE X e fe)(hf:PDE X f ff)(m:M2 X o "get" apos e f cpos):PDE X (.Call (.Attribute o "get" apos) [e,f] [] cpos) (vn fo fe ff):=
 PE.imp (Yx hu ho he hf m) fun σ H Q z_=>by
  obtain⟨F,τ,R,h⟩:=z_
  refine tE.of R h.bind fun d v F1 H1 g x R1 r=>?_
  cases d with
  |dct ks ds=>
   simp only[Rep] at r;obtain⟨a,kvs,ob,rfl,q,kk,t⟩:=r
   refine⟨a,rfl,.inl ⟨kvs,.inr ⟨ob,R1.fh _ _ q⟩⟩,?_⟩
   refine tE.of R1 g.bind fun dk vk F2 H2 g2 x2 R2 r2=>?_
   refine tE.of R2 g2.bind fun dz vz F3 H3 g3 x3 R3 r3=>?_
   cases hk:jr dk with
   |none=>rw[hk] at g3;exact g3.elim
   |some k=>
    rw[hk] at g3;dsimp only at g3
    have ek:=WC hk r2
    subst ek
    have q3:=x3.ff _ _ (x2.ff _ _ q)
    have gt:DGet H3 a (kV k) (wS kvs k):=.inl ⟨kvs,k,.inr ⟨ob,R3.fh _ _ q3⟩,rfl,rfl⟩
    obtain⟨i1,i2⟩:=YT k kk (t.mono (x2.ff.trans x3.ff))
    refine⟨_,gt,?_⟩
    cases hg:vi ks ds k with
    |none=>
     rw[hg] at g3
     rw[i2 hg]
     exact g3 vz F3 H3 ((x.trans x2).trans x3) r3
    |some dv=>
     rw[hg] at g3
     obtain⟨w,e1,e2⟩:=i1 dv hg
     rw[e1]
     exact g3 w F3 H3 ((x.trans x2).trans x3) e2
  |_=>exact g.elim
noncomputable def Ju(fo fe:FE):FE:=fun τ=>(fo τ).bind fun d=>match d with
 |.dct ks ds=>(fe τ).bind fun k=>match jr k with
  |some k=>(match vi ks ds k with
   |some v=>.ok v
   |none=>.no)
  |none=>.no
 |_=>.no
theorem Qy(hu:X.A.units+1<cLine)(ho:PDE X o fo)(he:PDE X e fe)(hs:Tx e:=by intro _ _;rfl):PDE X (.Subscript o e pos) (Ju fo fe):=
 PE.imp (Ql hu ho he hs) fun σ H Q z_=>by
  obtain⟨F,τ,R,h⟩:=z_
  refine tE.of R h.bind fun d v F1 H1 g x R1 r=>?_
  cases d with
  |dct ks ds=>
   simp only[Rep] at r;obtain⟨a,kvs,ob,rfl,q,kk,t⟩:=r
   refine tE.of R1 g.bind fun dk vk F2 H2 g2 x2 R2 r2=>?_
   cases hk:jr dk with
   |none=>rw[hk] at g2;exact g2.elim
   |some k=>
    rw[hk] at g2;dsimp only at g2
    have ek:=WC hk r2
    subst ek
    have q3:=x2.ff _ _ q
    obtain⟨i1,i2⟩:=YT k kk (t.mono x2.ff)
    cases hg:vi ks ds k with
    |none=>rw[hg] at g2;exact g2.elim
    |some dv=>
     rw[hg] at g2
     obtain⟨w,e1,e2⟩:=i1 dv hg
     have gt:DGet H2 a (kV k) (some w):=.inl ⟨kvs,k,.inr ⟨ob,R2.fh _ _ q3⟩,rfl,e1.symm⟩
     exact⟨a,w,rfl,gt,g2 w F2 H2 (x.trans x2) e2⟩
  |_=>exact g.elim
end
noncomputable abbrev SI:=List (Str×Int)
noncomputable def kvI(ks:SI):List (Key×V):=ks.map fun p=>(Sum.inr p.1,V.int p.2)
noncomputable def yg(ks:SI)(k:Str):Option Int:=(ks.find? fun p=>decide (p.1=k)).map (·.2)
noncomputable def vD(ks:SI)(k:Str)(v:Int):SI:=if ks.any (fun p=>decide (p.1=k))=true then ks.map fun p=>if p.1=k then (p.1,v) else p else ks++[(k,v)]
omit [Tabs] in
theorem any_I(ks:SI)(k:Str):((kvI ks).any fun kv=>decide (kv.1=Sum.inr k))=ks.any fun p=>decide (p.1=k):=by
 unfold kvI
 induction ks with
 |nil=>rfl
 |cons a ks ih=>rw[map_cons,any_cons,any_cons,ih];simp
omit [Tabs] in
theorem put_I(ks:SI)(k:Str)(v:Int):v9 (kvI ks) (Sum.inr k) (V.int v)=kvI (vD ks k v):=by
 unfold v9 vD
 rw[any_I]
 by_cases h:ks.any (fun p=>decide (p.1=k))=true
 ·rw[if_pos h,if_pos h]
  unfold kvI
  rw[map_map,map_map]
  refine map_congr_left fun a _=>?_
  simp only[Function.comp]
  by_cases z:a.1=k
  ·rw[if_pos (by rw[z]),if_pos z]
  ·rw[if_neg (fun y=>z (by cases y;rfl)),if_neg z]
 ·rw[if_neg h,if_neg h]
  unfold kvI
  rw[map_append];rfl
omit [Tabs] in
theorem val_I(ks:SI)(k:Str):wS (kvI ks) (Sum.inr k)=(yg ks k).map V.int:=by
 unfold yg
 induction ks with
 |nil=>rfl
 |cons a ks ih=>
  show wS ((Sum.inr a.1,V.int a.2)::kvI ks) _=_
  by_cases z:a.1=k
  ·rw[wz (by rw[z]),find?_cons];simp[z]
  ·rw[wA (fun y=>z (by cases y;rfl)),ih,find?_cons];simp[z]
omit [Tabs] in
theorem u8(ks:SI)(k:Str)(v:Int):(vD ks k v).length≤ks.length+1:=by
 unfold vD
 split <;> simp
structure Di(B F H:Hp)(σ:St)(i:Nat)(ks:SI)(d:Addr):Prop where
 sl:σ[i]?=some (some (.ref d))
 db:B d=none
 df:F d=none
 dh:H d=some (.dK (kvI ks))
theorem Di.ext{B F H F' H':Hp}{σ:St}{i:Nat}{ks:SI}{d:Addr}(D:Di B F H σ i ks d)(x:Ext F H F' H'):Di B F' H' σ i ks d:=
 ⟨D.sl,D.db,Js x D.dh D.df,x.hh _ _ D.dh⟩
theorem Di.set{B F H:Hp}{σ:St}{i k:Nat}{ks:SI}{d:Addr}{v:Option V}(D:Di B F H σ i ks d)(h:k≠i):Di B F H (σ.set k v) i ks d:=
 { D with sl:=by rw[getElem?_set_ne h];exact D.sl }
noncomputable abbrev FG3:=DS→SI→Option (DS×SI)
noncomputable def tGi(X:Cx)(i:Nat)(f:FG3):TS:=fun E σ H=>∃B Z F τ ks d τ' ks',RS X.K B Z F τ σ H∧Vl τ∧Di B F H σ i ks d∧f τ ks=some (τ',ks') ∧
 ∀σ' F' H',Same F F'→RS X.K B Z F' τ' σ' H'→Vl τ'→Di B F' H' σ' i ks' d→E.nx σ' H'
noncomputable def wV(fk:FE):FG3:=fun τ ks=>match fk τ with
 | .ok (.str k)=>if ks.length≤1000000 then some (τ,vD ks k ((yg ks k).getD 0+1)) else none
 |_=>none
omit [Tabs] in
theorem VA{fk:FE}{τ τ':DS}{ks ks':SI}(h:wV fk τ ks=some (τ',ks')):∃k,fk τ=.ok (.str k)∧ks.length≤1000000∧τ'=τ∧ks'=vD ks k ((yg ks k).getD 0+1):=by
 unfold wV at h
 split at h
 ·rename_i k e
  split at h
  ·rename_i z
   cases h
   exact⟨k,e,z,rfl,rfl⟩
  ·cases h
 ·cases h
noncomputable def xm(f:FG3)(r:Nat):List D→FG3
 |[],τ,ks=>some (τ,ks)
 |d::ds,τ,ks=>(f (τ.set r (some (.val d))) ks).bind fun p=>xm f r ds p.1 p.2
noncomputable def jy(fi:FA)(r:Nat)(f:FG3):FG3:=fun τ ks=>match fi τ with
 |.ok ds=>xm f r ds τ ks
 |_=>none
section
variable{X:Cx}{i r:Nat}{x y:Str}{e0 e0' ev iter:Expr}{fk fv:FE}{fi:FA}{f:FG3}{q1 q2 sp bp ap tp pos gp gc c0 c1 cp ip:Pos}{k0 k1:Nat}{body:List Stmt}
theorem Wd(hu:X.A.units+1<cLine)(hd:PE X (.Name y q1) (xB i))(hd2:PE X (.Name y q2) (xB i))(hk:PDE X e0 fk)(hk':PDE X e0' fk)(m:M2 X (.Name y q2) "get" gp e0' (.Constant (.int 0) k0 c0) gc)
  (hsw:swapsWith (.BinOp (.Call (.Attribute (.Name y q2) "get" gp) [e0',.Constant (.int 0) k0 c0] [] gc) .Add (.Constant (.int 1) k1 c1) bp) (some (.Subscript (.Name y q1) e0 sp)) ap.line X.env=pure false:=by rfl) :
  PS X (.Assign [.Subscript (.Name y q1) e0 sp] (.BinOp (.Call (.Attribute (.Name y q2) "get" gp) [e0',.Constant (.int 0) k0 c0] [] gc) .Add (.Constant (.int 1) k1 c1) bp) ap) (tGi X i (wV fk)):=
 PS.imp (Qe hu hd hk (GK op_add (Yx hu hd2 hk' Xq m) Xq) hsw) fun E σ H h=>by
  obtain⟨B,Z,F,τ,ks,d,τ',ks',R,vl,D,hf,q⟩:=h
  obtain⟨k,z1,z2,z3,z4⟩:=VA hf
  subst z3;subst z4
  refine⟨_,D.sl,d,rfl,.inl ⟨_,.inl D.dh⟩,?_⟩
  refine tE.at R (UH z1 rfl) fun dd w F1 H1 g x R1 r=>?_
  subst g
  simp only[Rep] at r;subst r
  have D1:=D.ext x
  refine⟨_,DGet.k (k:=Sum.inr k) D1.dh,(yg ks k).getD 0,1,?_,rfl,?_⟩
  ·rw[val_I]
   cases yg ks k <;> rfl
  ·refine⟨_,D1.sl,?_⟩
   refine tE.at R1 (UH z1 rfl) fun dd w F2 H2 g x2 R2 r=>?_
   subst g
   simp only[Rep] at r;subst r
   have D2:=D1.ext x2
   have pt:=DPut.k (k:=Sum.inr k) (v:=.int ((yg ks k).getD 0+1)) D2.dh (by rw[sizeLine_eq];unfold kvI;rw[length_map];lia)
   rw[put_I] at pt
   exact⟨d,_,rfl,pt,q σ F2 _ (x.ff.trans x2.ff) (RS.free (o:=.dK (kvI (vD ks k ((yg ks k).getD 0+1)))) R2 vl D2.db D2.df (.inr (.inr ⟨_,D2.dh⟩))) vl ⟨D2.sl,D2.db,D2.df,zk⟩⟩
theorem We(hp:PassesOwn (model X.prog X.w) X.A X.env X.xe)(hc:X.calm=true)(hi:PDI X (.Name x tp) iter fi)(hN:X.N.Nodup)(hx:X.N[r]?=some x)(hlc:Loc X.env.scope x)(hri:r≠i)
  (hb:PSs X body (tGi X i f)) (hf:X.fn x=true∨X.env.scope.names.lookup x=some .local:=by first|exact .inl rfl|exact .inr rfl|assumption) (hs:∀x,foldedSetIterable iter X.env x=pure x:=by intro _;rfl) :
  PS X (.For (.Name x tp) iter body [] pos) (tGi X i (jy fi r f)):=
 PS.imp (Xp hp hc hi (vE hN hx hlc hf) hb hs) fun E σ H h=>by
  obtain⟨B,Z,F,τ,ks,d,τe,kse,R,vl,D,hf,q⟩:=h
  unfold jy at hf
  cases hfi:fi τ with
  |no=>rw[hfi] at hf;cases hf
  |ex c=>rw[hfi] at hf;cases hf
  |ok ds=>
   rw[hfi] at hf
   dsimp only at hf
   refine⟨F,τ,R.rv,UH hfi fun J F1 H1 x1 io=>?_⟩
   refine⟨fun n m σ H=>m=ds.length-n∧n≤ds.length∧∃F' τ' ks',Same F1 F'∧RS X.K B Z F' τ' σ H∧Vl τ'∧Di B F' H σ i ks' d∧xm f r (ds.drop n) τ' ks'=some (τe,kse),⟨ds.length,by simp,zero_le _,F1,τ,ks,Same.refl _,R.ext x1,vl,D.ext x1,hf⟩,?_⟩
   rintro n m σ2 H2 ⟨rfl,hn,F2,τ2,k2,f2,R2,v2,D2,g2⟩
   obtain⟨i1,i2⟩:=io n F2 H2 f2 R2.rv.fh
   by_cases hlt:n<ds.length
   ·have hd:ds.drop n=ds[n]::ds.drop (n+1):=drop_eq_getElem_cons hlt
    rw[hd] at g2
    obtain⟨go,yl⟩:=i2 ds[n] (by simp[hlt])
    refine .inr ⟨go,fun σ' H'=>∃F' τ' ks',Same F2 F'∧RS X.K B Z F' τ' σ' H'∧Vl τ'∧Di B F' H' σ' i ks' d∧xm f r (ds.drop (n+1)) τ' ks'=some (τe,kse),fun σ' H' ⟨F',τ',ks',a,b,c,t,e⟩=>⟨ds.length-(n+1),by lia,rfl,hlt,F',τ',ks',f2.trans a,b,c,t,e⟩,fun w H' yy=>?_⟩
    obtain⟨F3,x3,r3⟩:=yl w H' yy
    have R3:=(R2.ext x3).set (i:=r) r3
    have D3:=(D2.ext x3).set (v:=some w) (k:=r) hri
    unfold xm at g2
    cases z:f (τ2.set r (some (.val ds[n]))) k2 with
    |none=>rw[z] at g2;cases g2
    |some p=>
     obtain⟨τ3,k3⟩:=p
     rw[z] at g2
     exact⟨B,Z,F3,_,k2,d,τ3,k3,R3,v2.set r _,D3,z,fun σ' F' H'' ff RR vv DD=>⟨F',τ3,k3,x3.ff.trans ff,RR,vv,DD,g2⟩⟩
   ·have e:n=ds.length:=by lia
    subst e
    rw[drop_length] at g2
    cases g2
    exact .inl ⟨i1 (by simp),q σ2 F2 H2 (x1.ff.trans f2) R2 v2 D2⟩
end
theorem RS.outD{K:Frag}{B Z F H:Hp}{τ:DS}{σ:St}{d:Addr}{o:Obj}{kvs:List (Key×V)}(R:RS K B Z F τ σ H)(hb:B d=none)(hf:F d=none)(hh:H d=some (.dK kvs)):Ext Z B (upd F d (.frz o (.dK kvs))) (upd H d (.frz o (.dK kvs))):=by
 have ne:∀{b:Addr} {u:HO},H b=some u→(∀ks,u≠.dK ks)→b≠d:=fun {b u} h n z=>by subst z;rw[hh] at h;cases h;exact n _ rfl
 refine⟨fun b u q=>?_,fun b u q=>?_,fun b u q=>?_,fun b u q=>?_,fun _=>⟨fun r hr=>?_,fun x a h=>?_⟩⟩
 ·have q1:=R.zf b u q
  rw[zg (fun z=>by subst z;rw[hf] at q1;cases q1)];exact q1
 ·rw[zg (fun z=>by subst z;rw[hb] at q;cases q)];exact R.bh b u q
 ·by_cases z:b=d
  ·subst z;rw[zk] at q ⊢;exact q
  ·rw[zg z] at q ⊢;exact R.rv.fh b u q
 ·by_cases z:b=d
  ·subst z;exact .inr hb
  ·rw[zg z] at q;exact R.nb b u q
 ·obtain⟨t1,t2⟩:=R.rv.tt.1 r hr
  have n:r.1≠d:=by
   rcases t2 with e|⟨c,e,e2⟩
   ·exact ne e fun _ z=>nomatch z
   ·exact ne e fun _ z=>nomatch z
  refine⟨by rw[zg n];exact t1,?_⟩
  rcases t2 with e|⟨c,e,e2⟩
  ·exact .inl (by rw[zg n];exact e)
  ·exact .inr ⟨c,by rw[zg n];exact e,by rw[zg (ne e2 fun _ z=>nomatch z)];exact e2⟩
 ·have z:x≠d:=fun z=>by subst z;rw[zk] at h;cases h
  rw[zg z] at h
  obtain⟨C,dx,vs,e⟩:=R.rv.tt.2 x a h
  exact⟨C,dx,vs,by rw[zg (ne e fun _ z=>nomatch z)];exact e⟩
noncomputable def zM(ks:SI):D:=.dct (ks.map fun p=>Sum.inr p.1) (ks.map fun p=>D.int p.2)
theorem Ue{K:Frag}{F:Hp}{d:Addr}{o:Obj}{ks:SI}(h:F d=some (.frz o (.dK (kvI ks)))):Rep K F (zM ks) (.ref d):=by
 unfold zM
 simp only[Rep]
 refine⟨d,kvI ks,o,rfl,h,?_,?_⟩
 ·unfold kvI;rw[map_map];rfl
 ·unfold kvI
  rw[map_map]
  have e1:(ks.map fun p=>D.int p.2)=(ks.map (·.2)).map D.int:=by rw[map_map];rfl
  have e2:(ks.map ((fun x:Key×V=>x.2) ∘ fun p:Str×Int=>((Sum.inr p.1:Key),V.int p.2)))=(ks.map (·.2)).map V.int:=by rw[map_map];rfl
  rw[e1,e2]
  exact Reps.ints _
noncomputable def JZ(i:Nat)(f:FG3):FS:=fun τ=>if vlB τ=true∧i<τ.length then match f (τ.set i none) [] with
 |some p=>.rt (zM p.2)
 |none=>.no
 else .no
section
variable{X:Cx}{i:Nat}{y:Str}{f:FG3}{st:Stmt}{yp dp a1 rp p1:Pos}
theorem Ur(hN:X.N.Nodup)(hy:X.N[i]?=some y)(hly:Loc X.env.scope y)(hb:PS X st (tGi X i f))(hpy:PE X (.Name y p1) (xB i))
  (hsw:swapsWith (.Dict [] [] dp) (some (.Name y yp)) a1.line X.env=pure false:=by rfl) (hfy:X.fn y=true∨X.env.scope.names.lookup y=some .local:=by first|exact .inl rfl|exact .inr rfl|assumption) :
  wy X [.Assign [.Name y yp] (.Dict [] [] dp) a1,st,.Return (some (.Name y p1)) rp] (JZ i f):=
 PSs.imp (wC (ZK (i:=i) hN hy hly Yw hsw hfy) (wC hb (wN (u9 (Mt hpy))))) fun E σ H h=>by
  obtain⟨B,Z,F,τ,R,h⟩:=h
  unfold JZ at h
  by_cases z:vlB τ=true∧i<τ.length
  ·rw[if_pos z] at h
   obtain⟨z1,z3⟩:=z
   have vl:=VP z1
   intro p hp'
   have bp:B p=none:=UO R.bh hp'
   have fp':F p=none:=UN R.rv.fh hp'
   obtain⟨R1,v1⟩:=RS.drop (i:=i) (v:=some (.ref p)) (RS.free (o:=.dK []) R vl bp fp' (.inl hp')) vl
   cases q:f (τ.set i none) [] with
   |none=>rw[q] at h;exact h.elim
   |some pr=>
    obtain⟨τ',ks⟩:=pr
    rw[q] at h
    dsimp only at h
    refine⟨B,Z,F,τ.set i none,[],p,τ',ks,R1,v1,⟨?_,bp,fp',zk⟩,q,fun σ' F' H' ff R' v' D'=>?_⟩
    ·rw[getElem?_set_self (by rw[← R.rv.len];exact z3)]
    ·refine⟨_,D'.sl,p,_,rfl,D'.dh,fun o=>?_⟩
     exact h _ _ _ (R'.outD (o:=o) D'.db D'.df D'.dh) (Ue zk)
  ·rw[if_neg z] at h;exact h.elim
end
section
variable{X:Cx}{pos p1 p2:Pos}{k1 k2:Nat}{x:Str}{n:Int}
end
section
variable{prog:Program}{w:World}{A:Around}{R:Result→Shared→Prop}{E:Value→Shared→Prop}{I S:Addr}{fp wr:List Addr}{n:Nat}{P:Nat→Value→Prop}{St:Nat→Heap→Prop}{kw:List (Str×Value)}{Ph:Heap→Prop}
end
variable[Tabs]
section
variable{X:Cx}{pos pp kp:Pos}{e e2:Expr}{fe f2:FE}
end
section
open PySem.SeqAt
open PySem.AutoSeq1 (wpAny_loadPart')
open PySem.MeetsSeq PySem.MeetsSeq2 PySem.MeetsSeq3
end
section
variable{prog:Program}{w:World}{A:Around}{E:Value→Shared→Prop}{s:Shared}
end
variable[Tabs]
section
variable{X:Cx}
end
section
variable{X:Cx}
end
section
variable{X:Cx}
end
end FD
set_option Elab.async false
set_option linter.all false
set_option maxRecDepth 100000
namespace STW
open PySem PyProof.Rows
section
variable{prog:Program}{w:World}{K:Type}[DecidableEq K]{knd:KeyKind prog w K}{A:Around}{R:Result→Shared→Prop}{I d:Addr}{fp wr:List Addr}{n:Nat}{P:Nat→Value→Prop}{St:Nat→Heap→Prop}
end
section
variable{prog:Program}{w:World}{K:Type}[DecidableEq K]{knd:KeyKind prog w K}{A:Around}{E:Value→Shared→Prop}{s:Shared}
end
end STW
set_option Elab.async false
set_option linter.all false
set_option maxRecDepth 100000
namespace FD
open PySem PySem.Spec PyProof.Rows L2
variable[Tabs]
section
variable{X:Cx}
end
section
variable{X:Cx}{e:Expr}{pos:Pos}{fs:FA}
end
open PySem.W
section
variable{n:Nat}{κ:Nat→List Int}
end
section
variable{prog:Program}{w:World}{A:Around}{E:Value→Shared→Prop}{s:Shared}
end
variable[Tabs]
section
variable{X:Cx}{pins:List (Addr×Obj)}{σ:St}{F H:Hp}{τ:DS}{s:Shared}{Q:VK}{E:Value→Shared→Prop}
end
section
variable{P:Program}{w:World}{K:Frag}{mg:Str→Option Value}{base:Heap}
end
section
variable{X:Cx}{pos:Pos}{e a b:Expr}{es rest:List Expr}{fe fb:FE}{fs:FA}{c m x:Str}{i k n:Nat}{ps:List Str}{fo:FOb}
end
section
variable{X:Cx}{pins:List (Addr×Obj)}{σ:St}{H:Hp}{s:Shared}{a:Addr}{cls:Value}
end
section
variable{X:Cx}
noncomputable def QS(X:Cx)(st:Stmt)(t:TS):Prop:=∀(pins:List (Addr×Obj)) (s:Shared) (σ:St) (H:Hp) (D:jW),0<s.toks→Inv X pins σ H s→t D σ H→wpAny (model X.prog X.w) X.A (exec st X.env) (SP X pins D) X.xe s
variable{e a b o:Expr}{rest:List Expr}{pos apos cpos:Pos}{t u:TS}{te ta tb:TE}{tA tB':TT}
end
section
variable{X:Cx}{e a b o c:Expr}{es rest:List Expr}{pos apos cpos:Pos}{fe fa fb:FE}{ga gb:FT}{f g:FS}{st:Stmt}{sts:List Stmt}
end
section
variable{X:Cx}{pos:Pos}{i j:Nat}{c f x y:Str}{C:Addr}{sts:List Stmt}{g:FS}
end
section
variable{P:Program}{w:World}{K:Frag}{mg:Str→Option Value}{base:Heap}
end
section
variable{X:Cx}{pos:Pos}{c x y:Str}{i j k:Nat}{ps:List Str}
end
section
variable{X:Cx}{pos p3:Pos}{e:Expr}{fe:FE}
end
section
variable{X:Cx}{scope:Scope}{tn fr:List Str}{idx:List Nat}{tg iter elt:Expr}{pos:Pos}{fi:FA}{set:FG}{fo:FOb}{i p:Nat}{c:Str}
end
section
variable{P:Program}{w:World}{K:Frag}{mg:Str→Option Value}{base:Heap}
end
section
variable{X:Cx}{pos:Pos}{e a b:Expr}{es rest:List Expr}{fs:FA}{c m x:Str}{i k n:Nat}{ps:List Str}
end
noncomputable abbrev KI:=List (Key×Int)
noncomputable abbrev FD2:=DS→KI→Option (DS×KI)
section
variable{X:Cx}{i j r:Nat}{st:Stmt}{ss s1 s2:List Stmt}{fs:FS}{f g:FD2}{y:Str}{e e0 e0' ev iter c tg:Expr}{fe fk fv:FE}{gt:FT}{fi:FA}
noncomputable def dl(fs:FS):FD2:=fun τ ks=>match fs τ with
 |.nx τ'=>some (τ',ks)
 |_=>none
end
section
variable{X:Cx}
end
section
variable{X:Cx}{pins:List (Addr×Obj)}{σ:St}{H:Hp}{s:Shared}{a:Addr}{cls:Value}
end
section
variable{X:Cx}{pos:Pos}{e:Expr}{es:List Expr}{fe:FE}{fs:FA}
end
section
variable{X:Cx}{scope:Scope}{N':List Str}{tg iter elt:Expr}{pos:Pos}{wi:TI}{g:TG}{s0:St→St}
end
section
variable{X:Cx}{scope:Scope}{tn fr:List Str}{idx:List Nat}{tg iter elt:Expr}{pos:Pos}{set:FG}{r ri:DS→Rs D}
end
open PySem.W
noncomputable def cpI(x:Str):List Int:=x.cps.toList.map fun (c:Nat)=>(c:Int)
omit [Tabs] in
theorem Ww:∀a b:List Nat,decide (a<b)=lxI (a.map fun (c:Nat)=>(c:Int)) (b.map fun (c:Nat)=>(c:Int))
 |[],[]=>by simp[lxI]
 |[],_::_=>by simp[lxI]
 |_::_,[]=>by simp[lxI]
 |x::a,y::b=>by
  rw[map_cons,map_cons,lxI,← Ww a b]
  by_cases h:x=y
  ·subst h
   rw[if_pos rfl]
   simp[List.cons_lt_cons_iff]
  ·rw[if_neg (by lia)]
   simp only[List.cons_lt_cons_iff,h,false_and,or_false]
   rw[Bool.eq_iff_iff]
   simp
omit [Tabs] in
theorem UW(a b:Str):decide (a.cps.toList<b.cps.toList)=lxI (cpI a) (cpI b):=Ww _ _
omit [Tabs] in
theorem Z6{a b:Str}(h:cpI a=cpI b):a=b:=by
 unfold cpI at h
 have:a.cps.toList=b.cps.toList:=by
  have:=congrArg (List.map Int.toNat) h
  rw[map_map,map_map] at this
  simpa[Function.comp_def] using this
 cases a;cases b
 simp only[Str.mk.injEq]
 exact Array.toList_inj.mp this
noncomputable def TTs(h:Heap):List Value→List (Str×Int)→Prop
 |[],[]=>True
 |v::vs,p::ps=>(∃a o t u n,v=Value.ref a∧h.get? a=some o∧o.cls=.type "tuple" ∧ o.data=.seq #[.str p.1 t,.int p.2 u] n)∧TTs h vs ps
 |_,_=>False
omit [Tabs] in
theorem TTs.len{h:Heap}:∀{vs:List Value} {ps:List (Str×Int)},TTs h vs ps→vs.length=ps.length
 |[],[],_=>rfl
 |_::vs,_::ps,r=>by rw[length_cons,length_cons,TTs.len r.2]
 |[],_::_,r=>r.elim
 |_::_,[],r=>r.elim
omit [Tabs] in
theorem TTs.get{h:Heap}:∀{vs:List Value} {ps:List (Str×Int)} {i:Nat} {p:Str×Int},TTs h vs ps→ps[i]?=some p→∃a o t u n,vs.getD i Value.none=Value.ref a∧h.get? a=some o∧o.cls=.type "tuple" ∧ o.data=.seq #[.str p.1 t,.int p.2 u] n
 |[],[],_,_,_,hi=>by simp at hi
 |_::vs,q::ps,0,p,r,hi=>by
  obtain rfl:q=p:=by simpa using hi
  simpa using r.1
 |_::vs,_::ps,i+1,p,r,hi=>by
  obtain⟨a,o,t,u,n,q⟩:=TTs.get (i:=i) r.2 (by simpa using hi)
  exact⟨a,o,t,u,n,by simpa using q⟩
 |[],_::_,_,_,r,_=>r.elim
 |_::_,[],_,_,r,_=>r.elim
omit [Tabs] in
theorem TTs.firsts{h:Heap}:∀{vs:List Value} {ps:List (Str×Int)},TTs h vs ps→∃fs:List Value,KatTups h vs fs∧fs.length=vs.length∧∀v∈fs,∃n t,v=Value.str n t
 |[],[],_=>⟨[],KatTups.nil,rfl,fun _ z=>nomatch z⟩
 |v::vs,p::ps,⟨⟨a,o,t,u,n,e1,e2,e3,e4⟩,r⟩=>by
  obtain⟨fs,q1,q2,q3⟩:=TTs.firsts r
  subst e1
  refine⟨_,KatTups.cons e2 e3 e4 (show(#[Value.str p.1 t,Value.int p.2 u]:Array Value)[0]?=some (.str p.1 t) from rfl) q1,by simp[q2],fun v hv=>?_⟩
  rcases mem_cons.mp hv with rfl|hv
  ·exact⟨_,_,rfl⟩
  ·exact q3 v hv
 |[],_::_,r=>r.elim
 |_::_,[],r=>r.elim
section
variable{prog:Program}{w:World}{A:Around}{E:Value→Shared→Prop}{s:Shared}
omit [Tabs] in
theorem U6{vs:List Value}{ps:List (Str×Int)}{Q:SortKind→Shared→Prop}(h:TTs s.heap vs ps)(hn:0<vs.length)(q:Q (tuples' true) s):wpAny (model prog w) A (keyKind' vs.toArray) Q E s:=by
 obtain⟨fs,q1,q2,q3⟩:=h.firsts
 refine kat_kind (T:=.type "str") q1 (by lia) (fun v hv=>?_) (by decide) q
 obtain⟨i,t,rfl⟩:=q3 v hv
 exact Looks.now
theorem GA{vs:List Value}{ps:List (Str×Int)}{n:Nat}(h:TTs s.heap vs ps)(nd:(ps.map (·.1)).Nodup)(hn:ps.length=n)(i j:Nat)(C:Bool→Shared→Prop)(hi:i<n)(hj:j<n)(q:C (ltK (fun i=>(ps.map fun p=>cpI p.1).getD i []) i j) s):kas_ask prog w A (tuples' true) vs i j C s:=by
 have hi':ps[i]?=some (ps[i]'(by lia)):=getElem?_eq_getElem (by lia)
 have hj':ps[j]?=some (ps[j]'(by lia)):=getElem?_eq_getElem (by lia)
 obtain⟨a,o,t,u,m,e1,e2,e3,e4⟩:=h.get hi'
 obtain⟨a',o',t',u',m',f1,f2,f3,f4⟩:=h.get hj'
 have ki:(ps.map fun p=>cpI p.1).getD i []=cpI (ps[i]'(by lia)).1:=by simp[show i<ps.length by lia]
 have kj:(ps.map fun p=>cpI p.1).getD j []=cpI (ps[j]'(by lia)).1:=by simp[show j<ps.length by lia]
 have q:C (lxI (cpI (ps[i]'(by lia)).1) (cpI (ps[j]'(by lia)).1)) s:=by
  have q:C (lxI ((ps.map fun p=>cpI p.1).getD i []) ((ps.map fun p=>cpI p.1).getD j [])) s:=q
  rw[ki,kj] at q;exact q
 unfold kas_ask
 rw[e1,f1]
 refine kat_lt e2 e4 f2 f4 ?_
 refine kat_cons (wpAny_eqBool_str ?_)
 by_cases z:(ps[i]'(by lia)).1=(ps[j]'(by lia)).1
 ·have hij:i=j:=by
   rcases Nat.lt_trichotomy i j with y|y|y
   ·have:=pairwise_iff_getElem.mp nd i j (by simp;lia) (by simp;lia) y
    simp at this;exact absurd z this
   ·exact y
   ·have:=pairwise_iff_getElem.mp nd j i (by simp;lia) (by simp;lia) y
    simp at this;exact absurd z.symm this
  subst hij
  rw[decide_eq_true rfl]
  refine kat_yes (kat_cons (wpAny_eqBool_int ?_))
  rw[beq_self_eq_true]
  refine kat_yes (kat_nil ?_)
  rw[vf] at q
  exact q
 ·rw[decide_eq_false z]
  refine kat_no ?_
  exact oneLt_str (by rw[UW];exact q)
theorem J2{vs us:List Value}{ps:List (Str×Int)}{Q:SortSt→Shared→Prop}(h:TTs s.heap vs ps)(hl:vs.length=us.length)(h2:2≤us.length)(h64:us.length<64)(nd:(ps.map (·.1)).Nodup)
  (q:∀(p:Array Nat) (st:SortSt),PmK us.length p→Srt (fun i=>(ps.map fun p=>cpI p.1).getD i []) p us.length→(arrOf st).map (·.2)=List.toArray (p.toList.map fun i=>us.getD i Value.none)→failedOf st=none→Q st s) :
  wpAny (model prog w) A ((sortRuns').run (SortSt.mk' (tuples' true) (vs.toArray.zip us.toArray) #[] 7 none)) (fun r s'=>Q r.2 s') E s:=by
 have hk:ps.length=us.length:=by rw[← h.len,hl]
 refine kat_run (G:=fun p s'=>s'=s∧PmK us.length p∧Srt (fun i=>(ps.map fun p=>cpI p.1).getD i []) p us.length) hl h2 h64 (fun p st' s' h1 h3 h4 h5=>?_) ?_
 ·obtain⟨rfl,h5,h6⟩:=h5
  exact q p st' h5 h6 (kat_snds hl h3) h4
 ·have inj:∀i j,i<us.length→j<us.length→(ps.map fun p=>cpI p.1).getD i []=(ps.map fun p=>cpI p.1).getD j []→i=j:=fun i j hi hj e=>by
   have ki:(ps.map fun p=>cpI p.1).getD i []=cpI (ps[i]'(by lia)).1:=by simp[show i<ps.length by lia]
   have kj:(ps.map fun p=>cpI p.1).getD j []=cpI (ps[j]'(by lia)).1:=by simp[show j<ps.length by lia]
   rw[ki,kj] at e
   have e:=Z6 e
   rcases Nat.lt_trichotomy i j with y|y|y
   ·have:=pairwise_iff_getElem.mp nd i j (by simp;lia) (by simp;lia) y
    simp at this;exact absurd e this
   ·exact y
   ·have:=pairwise_iff_getElem.mp nd j i (by simp;lia) (by simp;lia) y
    simp at this;exact absurd e.symm this
  exact Pw.wp (fun i j C hi hj=>GA h nd hk i j C hi hj) (fun p hp=>⟨rfl,hp⟩) _ (JT (κ:=fun i=>(ps.map fun p=>cpI p.1).getD i []) inj h2)
end
open PySem.W
noncomputable def y4(p:Str×Int):D:=.tup [.str p.1,.int p.2]
noncomputable def layT(H:Hp):List Addr→SI→Hp
 |a::as,p::ps=>upd (layT H as ps) a (.tup [.str p.1,.int p.2])
 |_,_=>H
omit [Tabs] in
theorem wF{H:Hp}{b:Addr}:∀{as:List Addr} {ps:SI},b∉as→layT H as ps b=H b
 |[],_,_=>by unfold layT;rfl
 |a::as,[],_=>by unfold layT;rfl
 |a::as,p::ps,h=>by
  unfold layT
  rw[zg (fun z=>h (by simp[z])),wF fun z=>h (by simp[z])]
omit [Tabs] in
theorem YL{H:Hp}{b:Addr}{u:HO}:∀{as:List Addr} {ps:SI},layT H as ps b=some u→(b∉as∧H b=some u)∨H b=some u∨∃(j:Nat) (p:Str×Int),as[j]?=some b∧ps[j]?=some p∧u=.tup [.str p.1,.int p.2]
 |[],_,h=>by unfold layT at h;exact .inl ⟨by simp,h⟩
 |a::as,[],h=>by unfold layT at h;exact .inr (.inl h)
 |a::as,p::ps,h=>by
  unfold layT at h
  by_cases z:b=a
  ·subst z
   rw[zk] at h
   cases h
   exact .inr (.inr ⟨0,p,rfl,rfl,rfl⟩)
  ·rw[zg z] at h
   rcases YL h with ⟨h1,h2⟩|h2|⟨j,q,h1,h2,h3⟩
   ·exact .inl ⟨by simp[z,h1],h2⟩
   ·exact .inr (.inl h2)
   ·exact .inr (.inr ⟨j+1,q,by simpa using h1,by simpa using h2,h3⟩)
theorem YM{F H:Hp}(fh:Same F H):∀{as:List Addr} {ps:SI},as.Pairwise (· < ·)→(∀a∈as,H a=none)→Ext F H (layT F as ps) (layT H as ps)
 |[],_,_,_=>by unfold layT;exact Ext.refl fh
 |a::as,[],_,_=>by unfold layT;exact Ext.refl fh
 |a::as,p::ps,hp,hn=>by
  have hp':=pairwise_cons.mp hp
  have x:=YM fh (as:=as) (ps:=ps) hp'.2 fun b hb=>hn b (mem_cons_of_mem _ hb)
  have hna:a∉as:=fun z=>lt_irrefl _ (hp'.1 a z)
  unfold layT
  exact x.trans (Ext.new x.fh (by rw[wF hna];exact hn a (mem_cons_self ..)))
theorem Zh{K:Frag}{F:Hp}:∀{as:List Addr} {ps:SI},as.Pairwise (· < ·)→(∀a∈as,F a=none)→as.length=ps.length→Reps K (layT F as ps) (ps.map y4) (as.map V.ref)
 |[],[],_,_,_=>Reps.nil
 |a::as,p::ps,hp,hF,hl=>by
  have hp':=pairwise_cons.mp hp
  have hna:a∉as:=fun z=>lt_irrefl _ (hp'.1 a z)
  have ih:=Zh (K:=K) (F:=F) (as:=as) (ps:=ps) hp'.2 (fun b hb=>hF b (mem_cons_of_mem _ hb)) (by simpa using hl)
  rw[map_cons,map_cons]
  refine Reps.cons ?_ ?_
  ·unfold y4
   simp only[Rep]
   exact⟨a,[.str p.1,.int p.2],rfl,SqT.of (by unfold layT;exact zk),Reps.cons (by simp only[Rep]) (Reps.cons (by simp only[Rep]) Reps.nil)⟩
  ·unfold layT
   exact ih.mono (zS (by rw[wF hna];exact hF a (mem_cons_self ..)))
 |[],_::_,_,_,hl=>by simp at hl
 |_::_,[],_,_,hl=>by simp at hl
section
variable{X:Cx}{pins:List (Addr×Obj)}{σ:St}{F H:Hp}{s:Shared}{h':Heap}
theorem Inv.layT{as:List Addr}{ps:SI}{t':Nat}(I:Inv X pins σ H s)(k:∀b u,s.heap.get? b=some u→h'.get? b=some u)(hp:∀a∈as,s.heap.objs.size≤a)(hl:as.length=ps.length)
  (new:∀(j:Nat) (a:Addr) (p:Str×Int),as[j]?=some a→ps[j]?=some p→∃o t u n,h'.get? a=some o∧o.cls=.type "tuple" ∧ o.data=.seq #[.str p.1 t,.int p.2 u] n):Inv X pins σ (FD.layT H as ps) { s with heap:=h',toks:=t' }:=by
 have hn:∀a∈as,H a=none:=fun a ha=>I.hok.fresh (hp a ha)
 have old:∀{b:Addr} {u:HO},H b=some u→FD.layT H as ps b=some u:=fun {b u} e=>by
  rw[wF fun z=>by rw[hn b z] at e;cases e];exact e
 refine I.un ⟨fun b u q _ _ _=>k b u q,fun b u q _ _ _=>⟨u.slots,k b u q⟩,fun b u q n _=>?_,fun b u q _=>⟨u,k b u q⟩,fun b xs q=>old q,fun b u xs q=>old q,fun b qs q=>⟨#[],by rw[old q];simp⟩⟩ fun b u e=>?_
 ·rw[wF fun z=>absurd (Heap.lt_size q) (Nat.not_lt.mpr (hp b z))];exact n
 ·have keep:H b=some u→ObjOk X.prog X.w (FD.layT H as ps) h' b u:=fun e=>(I.hok b u e).stay (fun c v _ q=>k c v q) (fun c q=>old q) fun c xs q=>old q
  rcases YL e with ⟨_,e⟩|e|⟨j,p,h1,h2,h3⟩
  ·exact keep e
  ·exact keep e
  ·subst h3
   obtain⟨o,t,v,n,e1,e2,e3⟩:=new j b p h1 h2
   exact⟨show(2:Nat)≤sizeLine by decide,[.str p.1 t,.int p.2 v],.cons ⟨t,rfl⟩ (.cons ⟨v,rfl⟩ .nil),o,e1,e2,n,e3⟩
end
open PySem.W
omit [Tabs] in
theorem WB:∀{ks:SI} {vs:List (Key×Value)},KV (kvI ks) vs→vs.length=ks.length∧∀(j:Nat) (k:Key) (x:Value),vs[j]?=some (k,x)→∃p u,ks[j]?=some p∧k=Sum.inr p.1∧x=.int p.2 u
 |[],_,r=>by
  unfold KV kvI at r
  cases r
  exact⟨rfl,fun j k x h=>by simp at h⟩
 |p::ks,_,r=>by
  unfold KV at r
  cases r with
  |cons h1 h2=>
   rename_i q vs
   obtain⟨i1,i2⟩:=WB (ks:=ks) h2
   refine⟨by simp[i1],fun j k x h=>?_⟩
   cases j with
   |zero=>
    obtain⟨t,ht⟩:=h1.2
    have e:q=(k,x):=by simpa using h
    subst e
    exact⟨p,t,rfl,h1.1.symm,ht⟩
   |succ j=>
    obtain⟨p',u,a,b,c⟩:=i2 j k x (by simpa using h)
    exact⟨p',u,by simpa using a,b,c⟩
section
variable{X:Cx}{pins:List (Addr×Obj)}{σ:St}{F H:Hp}{τ:DS}{s:Shared}{Q:VK}{E:Value→Shared→Prop}
theorem Zz{r d:Addr}{ks:SI}(hh:X.A.handled=none)(I:Inv X pins σ H s)(fh:Same F H)(hd:H d=some (.dK (kvI ks)))(hv:s.heap.IsItemsView r d)(h64:ks.length<64)(nd:(ks.map (·.1)).Nodup)
  (hQ:∀Da F' H',Ext F H F' H'→Rep X.K F' (.lst ((yZ ((ks.map fun p=>cpI p.1).zip (ks.map y4))).map (·.2))) (.ref Da)→Q (.ref Da) H') :
  wpAny (model X.prog X.w) X.A (call (.builtin "sorted") [.ref r]) (EP X pins σ Q) E s:=by
 obtain⟨zl,sy,kvs,rel,hm⟩:=WO I.hok hd
 obtain⟨ep,hm⟩:∃ep,s.heap.DictAt (zT X.prog X.w) d kvs ep:=by
  obtain⟨o,es,ep,h1,h2,h3,h4⟩:=hm
  exact⟨ep,o,es,h1,h2,h3,h4⟩
 obtain⟨kl,kg⟩:=WB rel
 refine Calls.call_function_entry kind_sorted plain_sorted entry_sorted (args_sorted1 _) ?_
 unfold Builtin.«sorted»
 refine wpAny_bind (m:=checkCount "sorted" 1 1 _) (wpAny_pure ?_)
 refine wpAny_bind (kdx_collect (A:=X.A.in1) (knd:=zT X.prog X.w) hh hv hm (le_of_lt (wa (by lia))) fun h0 tk as hk0 hl0 hG=>?_)
 have la:as.length=ks.length:=hl0.trans kl
 have sz:(as.map Value.ref).length≤sizeLine:=by rw[length_map];exact le_of_lt (wa (by lia))
 have new:∀(j:Nat) (a:Addr) (p:Str×Int),as[j]?=some a→ks[j]?=some p→∃o t u n,h0.get? a=some o∧o.cls=.type "tuple" ∧ o.data=.seq #[.str p.1 t,.int p.2 u] n:=fun j a p ha hp=>by
  obtain⟨key,k,x,e1,e2,e3⟩:=hG.pairs j a ha
  obtain⟨p',u,f1,f2,f3⟩:=kg j k x e1
  rw[hp] at f1;cases f1
  subst f2;subst f3
  obtain⟨t,rfl⟩:=X9 e2
  exact⟨_,t,u,_,e3,rfl,rfl⟩
 have ge:∀a∈as,s.heap.objs.size≤a:=fun a ha=>le_of_lt (hG.above a ha)
 have nHa:∀a∈as,H a=none:=fun a ha=>I.hok.fresh (ge a ha)
 have I0:Inv X pins σ (FD.layT H as ks) { s with heap:=h0,toks:=tk }:=Inv.layT I hk0 ge la new
 have x0:=YM (ps:=ks) fh hG.rise nHa
 have rs:Reps X.K (FD.layT F as ks) (ks.map y4) (as.map V.ref):=Zh hG.rise (fun a ha=>zA fh (nHa a ha)) la
 have rv:Vals (as.map V.ref) (as.map Value.ref):=by
  clear hG nHa ge new I0 x0 rs la sz hl0
  induction as with
  |nil=>exact .nil
  |cons a as ih=>exact .cons rfl ih
 generalize FD.layT F as ks=F0 at x0 rs
 generalize FD.layT H as ks=H0 at x0 I0
 have fh0:Same F0 H0:=x0.fh
 have l1:(ks.map y4).length=(as.map Value.ref).length:=by simp[la]
 have tts:∀(h:Heap),(∀b u,h0.get? b=some u→h.get? b=some u)→TTs h (as.map Value.ref) ks:=fun h kp=>by
  have go:∀(as:List Addr) (ks:SI),as.length=ks.length→(∀(j:Nat) (a:Addr) (p:Str×Int),as[j]?=some a→ks[j]?=some p→∃o t u n,h0.get? a=some o∧o.cls=.type "tuple" ∧ o.data=.seq #[.str p.1 t,.int p.2 u] n)→TTs h (as.map Value.ref) ks:=fun as=>by
   induction as with
   |nil=>intro ks hl _;cases ks;exact trivial;simp at hl
   |cons a as ih=>
    intro ks hl hn
    cases ks with
    |nil=>simp at hl
    |cons p ks=>
     obtain⟨o,t,u,n,e1,e2,e3⟩:=hn 0 a p rfl rfl
     exact⟨⟨a,o,t,u,n,rfl,kp _ _ e1,e2,e3⟩,ih ks (by simpa using hl) fun j b q h1 h2=>hn (j+1) b q (by simpa using h1) (by simpa using h2)⟩
  exact go as ks la new
 refine wpAny_bind (wpAny_newList ?_ sz)
 generalize hus:as.map Value.ref=us at *
 generalize hvs:as.map V.ref=vs at *
 have lu:us.length=ks.length:=by rw[← l1];simp
 have hD:(h0.push (seqObj "list" us.toArray 0)).get? h0.objs.size=some (seqObj "list" us.toArray 0):=Heap.get?_push_size _ rfl
 have keep2:∀b u,h0.get? b=some u→(h0.push (seqObj "list" us.toArray 0)).get? b=some u:=fun b u q=>get?_push_of_some _ q
 generalize hDa:h0.objs.size=Da at hD
 have neD:∀b u,h0.get? b=some u→b≠Da:=fun b u q=>by rw[← hDa];exact ne_of_lt (Heap.lt_size q)
 generalize hh2:h0.push (seqObj "list" us.toArray 0)=h2 at hD keep2
 refine wpAny_bind (wpAny_holding (wpAny_call_entry (rest:=[]) slot_list_sort ⟨_,hD,rfl⟩ entry_list_sort ?_ (args_list_sort _)))
 rw[list_sort_plain Da]
 refine wpAny_bind (listItems_at hD rfl ?_);refine wpAny_bind (listUpdate_at hD rfl ?_ (by rw[size_toArray];exact sz) (zero_le _))
 have keep3:∀b u,h0.get? b=some u→(h2.update Da (Obj.mapSeq fun _=>(#[]:Array Value))).get? b=some u:=fun b u q=>by
  rw[Heap.get?_update_ne _ _ _ _ (neD b u q)];exact keep2 b u q
 obtain⟨e1,hD3⟩:∃e1,(h2.update Da (Obj.mapSeq fun _=>(#[]:Array Value))).get? Da=some (seqObj "list" #[] e1):=⟨_,get?_update_seq hD fun _=>#[]⟩
 generalize h2.update Da (Obj.mapSeq fun _=>(#[]:Array Value))=h3 at keep3 hD3
 refine wpAny_bind (seqEpoch_at hD3 rfl ?_);refine wpAny_bind (wpAny_newTuple ?_ (by show us.length≤sizeLine;exact sz));refine wpAny_bind (wpAny_newList ?_ (zero_le _))
 refine wpAny_holding ?_
 have hDa0:h0.objs.size≤Da:=Nat.le_of_eq hDa
 have nH:H0 Da=none:=I0.hok.fresh hDa0
 have neL:Da≠X.env.locals:=(ne_of_lt (lt_of_lt_of_le I0.lt hDa0)).symm
 have pinD:∀q∈X.pn++pins,q.1≠Da:=fun q hq=>neD _ _ (I0.pin q hq).1
 have cellD:∀x c,X.env.cells.lookup x=some c→c≠Da:=fun x c e=>by
  obtain⟨v,oc,hoc,_⟩:=I0.cell x c e
  exact neD _ _ hoc
 have keep4:∀b u,h3.get? b=some u→((h3.push (seqObj "tuple" us.toArray 0)).push (seqObj "list" #[] 0)).get? b=some u:=fun b u q=>get?_push_of_some _ (get?_push_of_some _ q)
 have I1:Inv X pins σ H0 { s with heap:=(h3.push (seqObj "tuple" us.toArray 0)).push (seqObj "list" #[] 0),toks:=tk }:=Inv.kept (s:={ s with heap:=h0,toks:=tk }) (t':=tk) I0 fun b u q=>keep4 _ _ (keep3 b u q)
 have I2:Inv X (pins++[(Da,seqObj "list" #[] e1)]) σ H0 { s with heap:=(h3.push (seqObj "tuple" us.toArray 0)).push (seqObj "list" #[] 0),toks:=tk }:=I1.pins_of fun q hq=>by
  rcases mem_append.mp hq with hq|hq
  ·exact I1.pin q (mem_append_right _ hq)
  ·have:q=(Da,seqObj "list" #[] e1):=by simpa using hq
   subst this
   exact⟨keep4 _ _ hD3,nH,neL,I0.nofs hDa0,fun v z=>nomatch z⟩
 have h0D:X.s₀.heap.objs.size≤Da:=le_trans I0.sz hDa0
 have kp:∀b u,h0.get? b=some u→((h3.push (seqObj "tuple" us.toArray 0)).push (seqObj "list" #[] 0)).get? b=some u:=fun b u q=>keep4 _ _ (keep3 b u q)
 have kt:=tts _ kp
 generalize (h3.push (seqObj "tuple" us.toArray 0)).push (seqObj "list" #[] 0)=h4 at I1 I2 keep4 kt kp
 have eD:h4.get? Da=some (seqObj "list" #[] e1):=keep4 _ _ hD3
 try dsimp only
 have fin:∀(st:SortSt) (out:List Value) (ovs:List V),(arrOf st).map (·.2)=List.toArray out→failedOf st=none→out.length<64→Vals ovs out→Reps X.K F0 ((yZ ((ks.map fun p=>cpI p.1).zip (ks.map y4))).map (·.2)) ovs →
   wpAny (model X.prog X.w) X.A.in1.in1 (ub Da e1 st) (fun fin s'=>∃v,fin=.done (.ret v)∧wpAny (model X.prog X.w) X.A.in1 (ret (.ref Da)) (fun fin s'=>∃v,fin=.done (.ret v)∧EP X pins σ Q v s') E s') E { s with heap:=h4,toks:=tk }:=fun st out ovs hout hf hz r ro=>by
  unfold ub
  try dsimp only
  refine wpAny_bind (seqEpoch_at eD rfl ?_)
  refine wpAny_bind (listUpdate_at eD rfl ?_ (zero_le _) (by rw[hout,size_toArray];exact le_trans (le_of_lt (wa (by lia))) (le_succ _)))
  rw[hf]
  simp only[bne_self_eq_false,Bool.false_eq_true,if_false]
  refine wpAny_pure ⟨_,rfl,wpAny_pure ⟨_,rfl,.ref Da,_,Inv.settle I2 rfl (ws:=out) hout r (by rw[r.length];exact le_of_lt (wa (by lia))) h0D cellD pinD,rfl,hQ Da (upd F0 Da (.lst ovs)) _ (x0.trans (Ext.new fh0 nH)) ?_⟩⟩
  simp only[Rep]
  exact⟨Da,ovs,rfl,zk,ro.mono (zS (zA fh0 nH))⟩
 by_cases h2:us.length<2
 ·have h2':us.toArray.size<2:=by rw[size_toArray];exact h2
  rw[if_pos h2',if_pos h2']
  refine wpAny_bind (wpAny_pure ?_)
  rw[StateT.run_pure]
  refine wpAny_bind (wpAny_pure ?_)
  refine fin _ us vs ?_ rfl (by lia) rv ?_
  ·show((us.toArray.zip us.toArray).map (·.2))=us.toArray
   apply Array.toList_inj.mp
   rw[Array.toList_map,ksk_zip]
   exact List.map_snd_zip (by simp)
  ·rw[Xf (by rw[length_map,length_map]) (by rw[length_map];lia)];exact rs
 ·have h2':¬ us.toArray.size<2:=by rw[size_toArray];exact h2
  rw[if_neg h2',if_neg h2']
  refine wpAny_bind (U6 kt (by lia) ?_)
  have ndk:(ks.map fun p=>cpI p.1).Nodup:=by
   have e:(ks.map fun p=>cpI p.1)=(ks.map (·.1)).map cpI:=by rw[map_map];rfl
   rw[e]
   exact List.Pairwise.map _ (fun a b hab z=>hab (Z6 z)) nd
  refine wpAny_bind (J2 (Q:=fun st s'=>wpAny (model X.prog X.w) X.A.in1.in1 (ub Da e1 st) (fun fin s'=>∃v,fin=.done (.ret v)∧wpAny (model X.prog X.w) X.A.in1 (ret (.ref Da)) (fun fin s'=>∃v,fin=.done (.ret v)∧EP X pins σ Q v s') E s') E s') kt rfl (by lia) (by lia) nd fun p st h3 h4 h5 h6=>?_)
  have hp:∀i∈p.toList,i<us.length:=fun i hi=>by simpa using h3.mem_iff.mp hi
  refine fin st _ (p.toList.map fun i=>vs.getD i .non) h5 h6 ?_ (jX rv _ fun i hi=>by rw[rv.length];exact hp i hi) ?_
  ·rw[length_map,h3.length_eq,length_range];lia
  ·rw[← V4 (q:=p) (d:=.non) (by rw[length_map,length_map]) ndk (by rw[l1];exact h3) (by rw[l1];exact h4)]
   exact Reps.pick rs _ fun i hi=>by rw[l1];exact hp i hi
end
open PySem.W
noncomputable def wG(ks:SI):D:=.lst ((yZ ((ks.map fun p=>cpI p.1).zip (ks.map y4))).map (·.2))
noncomputable def tSI(X:Cx)(td:TE):TE:=fun σ H Q=>td σ H fun x H1=>∃a ks F,x=.ref a∧Same F H1∧H1 a=some (.dK (kvI ks))∧ks.length<64∧(ks.map (·.1)).Nodup∧∀Da F' H',Ext F H1 F' H'→Rep X.K F' (wG ks) (.ref Da)→Q (.ref Da) H'
section
variable{X:Cx}{o:Expr}{td:TE}{p pos apos cpos:Pos}
theorem ZL(hc:X.calm=true)(ho:PE X o td)(hg:Gl X "sorted")(hm:X.mg "sorted" = none)(hb:attributeBase o "items" X.env (eval o X.env)=eval o X.env:=by rfl)
  (hfew:((backTo cpos (starEach [] X.env)).all (fun x=>!x.1)&&(backToKw cpos (keywordEach [] X.env)).all (fun x=>x.1.isSome)&&decide (([]:List Expr).length+([]:List Keyword).length+(if ([]:List Keyword).isEmpty then 0 else 1)<30))=true:=by rfl)
  (hline:(apos.endLine==cpos.line)=true:=by rfl) (ht:backTo cpos (starEach [] X.env)=[]:=by rfl)
  (he:starEach [.Call (.Attribute o "items" apos) [] [] cpos] X.env=[(false,eval (.Call (.Attribute o "items" apos) [] [] cpos) X.env)]:=by rfl) (hpl:(backTo pos (starEach [] X.env)).any (·.1)=false:=by rfl) (hs0:starEach [] X.env=[]:=by rfl) :
  PE X (.Call (.Name "sorted" p) [.Call (.Attribute o "items" apos) [] [] cpos] [] pos) (tSI X td):=by
 intro pins s σ H Q I h
 refine wpAny_Call_Name_kw (uk I hg hm boot_sorted ?_ (by decide) (by decide))
 refine PyProof.Rows.callWith_builtin1 ?_ (by rw[he,hs0]) hpl
 rw[he]
 refine Calls.spliced_cons ?_
 refine wpAny_Call_method hb hfew hline PySem.F.plainAttrs_dict PySem.F.slot_dict_items PySem.F.type_dict_items (thn (ho pins s σ H _ I h) fun u s1 z_=>?_)
 obtain⟨x,H1,I1,rx,a,ks,F,ex,fh,ha,h64,nd,q⟩:=z_
 subst ex
 obtain rfl:u=Value.ref a:=rx
 obtain⟨t1,t2,lo⟩:=Ja I1 (.inl ⟨_,.inl ha⟩)
 refine⟨t1,t2,?_⟩
 obtain⟨zl,sy,kvs,rel,hD⟩:=WO I1.hok ha
 rw[ht]
 refine Calls.callWith_builtin rfl (PySem.evalArgs_none ?_)
 refine call_meetsIn PySem.F.slot_dict_items hD.typeIs PySem.F.entry_dict_items (PySem.F.args_dict_items_1 _) (meets_dict_items (zT X.prog X.w) a lo) ⟨⟨kvs,hD⟩,?_⟩
 refine Calls.spliced_nil ?_
 have I2:Inv X pins σ H1 { s1 with heap:=s1.heap.push { cls:=.type "dict_items", data:=.fields #[.ref a] } }:=I1.kept (t':=s1.toks) fun b u e=>get?_push_of_some _ e
 exact Zz (I.ok.hd hc) I2 fh ha ⟨_,Heap.get?_push_size _ rfl,rfl,rfl⟩ h64 nd fun Da F' H' x r=>q Da F' H' x r
end
open PySem.W
theorem RS.forget{K:Frag}{B Z F H:Hp}{τ:DS}{σ:St}{j:Nat}(R:RS K B Z F τ σ H)(vl:Vl (τ.set j none)):RS K B Z F (τ.set j none) σ H:=by
 have get:∀(k:Nat) (s:Sl),(τ.set j none)[k]?=some (some s)→τ[k]?=some (some s):=fun k s h=>by
  by_cases z:j=k
  ·subst z
   rw[getElem?_set] at h
   simp only[if_true] at h
   split at h <;> cases h
  ·rw[getElem?_set_ne z] at h;exact h
 have own:∀(k:Nat) ds,(τ.set j none)[k]?≠some (some (.own ds)):=fun k ds h=>by obtain⟨d,e⟩:=vl k _ h;cases e
 have obj:∀(k n:Nat) c fs,(τ.set j none)[k]?≠some (some (.obj n c fs)):=fun k n c fs h=>by obtain⟨d,e⟩:=vl k _ h;cases e
 have obr:∀(k:Nat) c fs,(τ.set j none)[k]?≠some (some (.obr c fs)):=fun k c fs h=>by obtain⟨d,e⟩:=vl k _ h;cases e
 exact⟨⟨R.rv.fh,by rw[length_set];exact R.rv.len,fun k d h=>R.rv.val k d (get k _ h),fun k ds h=>absurd h (own k ds),fun k l ds es a _ h=>absurd h (own k ds),R.rv.tt,ObsOk.none vl.noObj⟩,R.bh,R.zf,R.nb,fun k ds a h=>absurd h (own k ds),fun k n c fs a h=>absurd h (obj k n c fs),fun a0 dx _ _ k n c fs h=>absurd h (obj k _ c fs),fun k c fs a h=>absurd h (obr k c fs)⟩
noncomputable def ZH(i j:Nat)(c fl:Str)(r:Nat)(f:FG3):FS:=fun τ=>match W7 τ j c fl with
 |.ok ds=>if vlB (τ.set j none)=true∧i<τ.length∧i≠j then (match xm f r ds ((τ.set j none).set i none) [] with
  |some p=>if p.2.length<64∧(p.2.map (·.1)).Nodup then .rt (wG p.2) else .no
  |none=>.no) else .no
 |_=>.no
section
variable{X:Cx}{i j r:Nat}{y x sf c fl:Str}{f:FG3}{C:Addr}{body:List Stmt}{yp dp a1 tp p1 p2 fp p q apos cpos pos rp:Pos}
theorem Xr(hN:X.N.Nodup)(hc:X.calm=true)(hp:PassesOwn (model X.prog X.w) X.A X.env X.xe)(hy:X.N[i]?=some y)(hly:Loc X.env.scope y)(hxr:X.N[r]?=some x)(hlr:Loc X.env.scope x)(hri:r≠i)
  (hx:PE X (.Name sf p1) (xB j)) (hC:nsIn X.K mainGlobals c=some (some (.ref C))) (cl:Cls X.K C) (na:NoAttr X.K C fl) (hb:PSs X body (tGi X i f)) (hpy:PE X (.Name y q) (xB i)) (hgs:Gl X "sorted") (hms:X.mg "sorted" = none) (ho:Tabs.own c fl=true:=by rfl)
  (hsw:swapsWith (.Dict [] [] dp) (some (.Name y yp)) a1.line X.env=pure false:=by rfl) (hfy:X.fn y=true∨X.env.scope.names.lookup y=some .local:=by first|exact .inl rfl|exact .inr rfl|assumption) (hfr:X.fn x=true∨X.env.scope.names.lookup x=some .local:=by first|exact .inl rfl|exact .inr rfl|assumption)
  (hs2:∀v,foldedSetIterable (.Attribute (.Name sf p1) fl p2) X.env v=pure v:=by intro _;rfl)
  (hbs:attributeBase (.Name y q) "items" X.env (eval (.Name y q) X.env)=eval (.Name y q) X.env:=by rfl)
  (hfew:((backTo cpos (starEach [] X.env)).all (fun x=>!x.1)&&(backToKw cpos (keywordEach [] X.env)).all (fun x=>x.1.isSome)&&decide (([]:List Expr).length+([]:List Keyword).length+(if ([]:List Keyword).isEmpty then 0 else 1)<30))=true:=by rfl)
  (hline:(apos.endLine==cpos.line)=true:=by rfl) (ht:backTo cpos (starEach [] X.env)=[]:=by rfl)
  (he:starEach [.Call (.Attribute (.Name y q) "items" apos) [] [] cpos] X.env=[(false,eval (.Call (.Attribute (.Name y q) "items" apos) [] [] cpos) X.env)]:=by rfl) (hpl:(backTo pos (starEach [] X.env)).any (·.1)=false:=by rfl) (hs0:starEach [] X.env=[]:=by rfl) :
  wy X [.Assign [.Name y yp] (.Dict [] [] dp) a1,.For (.Name x tp) (.Attribute (.Name sf p1) fl p2) body [] fp,.Return (some (.Call (.Name "sorted" p) [.Call (.Attribute (.Name y q) "items" apos) [] [] cpos] [] pos)) rp] (ZH i j c fl r f):=
 PSs.imp (wC (ZK (i:=i) hN hy hly Yw hsw hfy) (wC (Xp hp hc (Qh (Wh hx)) (vE hN hxr hlr hfr) hb hs2) (wN (u9 (ZL hc hpy hgs hms hbs hfew hline ht he hpl hs0))))) fun E σ H h=>by
  obtain⟨B,Z,F,τ,R,h⟩:=h
  unfold ZH at h
  cases qr:W7 τ j c fl with
  |no=>rw[qr] at h;exact h.elim
  |ex k=>rw[qr] at h;exact h.elim
  |ok ds=>
  rw[qr] at h
  simp only at h
  by_cases z:vlB (τ.set j none)=true∧i<τ.length∧i≠j
  rotate_left
  ·rw[if_neg z] at h;exact h.elim
  rw[if_pos z] at h
  obtain⟨z1,z2,z3⟩:=z
  have vl:=VP z1
  cases qh:xm f r ds ((τ.set j none).set i none) [] with
  |none=>rw[qh] at h;exact h.elim
  |some pr=>
  obtain⟨τe,kse⟩:=pr
  rw[qh] at h
  simp only at h
  by_cases z4:kse.length<64∧(kse.map (·.1)).Nodup
  rotate_left
  ·rw[if_neg z4] at h;exact h.elim
  rw[if_pos z4] at h
  obtain⟨ds',a,C',dx,vs,l,ws,h1,h2,h3,h4,h5,h7,rfl⟩:=J3 (P:=fun ds'=>ds'=ds) R ho (by rw[qr];exact rfl)
  obtain rfl:C=C':=by rw[hC] at h3;cases h3;rfl
  intro dp' hp'
  have bp:B dp'=none:=UO R.bh hp'
  have fp':F dp'=none:=UN R.rv.fh hp'
  obtain⟨R1,v1⟩:=RS.drop (i:=i) (v:=some (.ref dp')) (RS.free (o:=.dK []) (RS.forget R vl) vl bp fp' (.inl hp')) vl
  have na':a≠dp':=fun e=>by rw[e,hp'] at h2;cases h2
  have hl:H l=some (.lst ws):=R.bh _ _ h5
  have nl:l≠dp':=fun e=>by rw[e,hp'] at hl;cases hl
  refine⟨_,by rw[getElem?_set_ne z3];exact h1,a,C,dx,vs,.ref l,rfl,by rw[zg na'];exact h2,cl,na,h4,l,rfl,⟨ws,SqL.of (by rw[zg nl];exact hl)⟩,?_⟩
  refine⟨fun n m σ H=>m=ds'.length-n∧n≤ds'.length∧∃F' τ' ks',Same F F'∧RS X.K B Z F' τ' σ H∧Vl τ'∧Di B F' H σ i ks' dp'∧xm f r (ds'.drop n) τ' ks'=some (τe,kse),⟨ds'.length,by simp,zero_le _,F,(τ.set j none).set i none,[],Same.refl _,R1,v1,⟨?_,bp,fp',zk⟩,qh⟩,?_⟩
  ·rw[getElem?_set_self (by rw[← R.rv.len];exact z2)]
  rintro n m σ2 H2 ⟨rfl,hn,F2,τ2,k2,f2,R2,v2,D2,g2⟩
  obtain⟨i1,i2⟩:=itl_h (K:=X.K) (i:=n) h5 R2.bh R2.rv.fh (h7.mono f2)
  by_cases hlt:n<ds'.length
  ·have hd:ds'.drop n=ds'[n]::ds'.drop (n+1):=drop_eq_getElem_cons hlt
   rw[hd] at g2
   obtain⟨go,yl⟩:=i2 ds'[n] (by simp[hlt])
   refine .inr ⟨go,fun σ' H'=>∃F' τ' ks',Same F2 F'∧RS X.K B Z F' τ' σ' H'∧Vl τ'∧Di B F' H' σ' i ks' dp'∧xm f r (ds'.drop (n+1)) τ' ks'=some (τe,kse),fun σ' H' ⟨F',τ',ks',a,b,c,t,e⟩=>⟨ds'.length-(n+1),by lia,rfl,hlt,F',τ',ks',f2.trans a,b,c,t,e⟩,fun w H' yy=>?_⟩
   obtain⟨F3,x3,r3⟩:=yl w H' yy
   have R3:=(R2.ext x3).set (i:=r) r3
   have D3:=(D2.ext x3).set (v:=some w) (k:=r) hri
   unfold xm at g2
   cases zz:f (τ2.set r (some (.val ds'[n]))) k2 with
   |none=>rw[zz] at g2;cases g2
   |some p=>
    obtain⟨τ3,k3⟩:=p
    rw[zz] at g2
    exact⟨B,Z,F3,_,k2,dp',τ3,k3,R3,v2.set r _,D3,zz,fun σ' F' H'' ff RR vv DD=>⟨F',τ3,k3,x3.ff.trans ff,RR,vv,DD,g2⟩⟩
  ·have e:n=ds'.length:=by lia
   subst e
   rw[drop_length] at g2
   cases g2
   refine .inl ⟨i1 (by simp),?_⟩
   exact⟨_,D2.sl,dp',kse,F2,rfl,R2.rv.fh,D2.dh,z4.1,z4.2,fun Da F' H' x r=>h _ F' H' (R2.ext x).out r⟩
end
end FD
set_option Elab.async false
set_option linter.all false
set_option maxRecDepth 100000
namespace STW
open PySem PyProof.Rows
section
variable{prog:Program}{w:World}{A:Around}{E:Value→Shared→Prop}{s:Shared}
noncomputable def sgs(x:Str):List Str:=x.cps.toList.map fun c=>(⟨#[c]⟩:Str)
theorem sgs_len(x:Str):(sgs x).length=x.cps.size:=by simp[sgs]
theorem Mc{x:Str}{i:Nat}{v:Value}(h:SignAt x i v):∃t,v=.str ((sgs x).getD i "") t:=by
 obtain⟨c,u,e,rfl⟩:=h
 have:(sgs x)[i]?=some ⟨#[c]⟩:=by
  unfold sgs
  rw[getElem?_map,getElem?_toList,e];rfl
 exact⟨u,by rw[List.getD_eq_getElem?_getD,this];rfl⟩
set_option maxRecDepth 100000 in
set_option maxHeartbeats 3200000 in
theorem callSetX{x:Str}{t:Tok}{Q:Value→Shared→Prop}(hh:A.handled=none)(hb:x.cps.size+1<scanBound)
  (h:∀(h':Heap) (tk:Nat),SetT (strKind prog w) (ww w) h' s.heap.objs.size (fun k=>(fmS (sgs x) x.cps.size).any (· == k)) (fmS (sgs x) x.cps.size).length→(∀b o,b<s.heap.objs.size→s.heap.get? b=some o→h'.get? b=some o)→Q (.ref s.heap.objs.size) { s with heap:=h',toks:=tk }) :
  wpAny (model prog w) A (call (.type "set") [.str x t]) Q E s:=by
 obtain⟨c,tl,hmro⟩:=PySem.F.called_set.mro;have hmade:=PySem.F.called_set.made;have hsub:=PySem.F.called_set.sub
 refine wpAny_call (codeAny_of_tree ?_);show wpAny _ _ (callAny (.type "set") _) _ _ _
 refine wpAny_pure ⟨Code.quiet_builtin _ (by decide +kernel),codeAny_builtin F.entry_type_call ?_⟩;rw[Around.under_plain (weight_type_call_type "set" [.str x t] []) rfl]
 have h1:=PySem.F.called_set.notType;have h2:=PySem.F.called_set.canCreate;have hct:=PySem.F.typeCall_set_1 (.str x t)
 repeat (any_goals (first|assumption|wp_step))
 refine codeAny_mono (newT (.str x t) (E:=E) (Q₁:=fun obj s1=>obj=.ref s.heap.objs.size∧s1 = { s with heap:=s.heap.push (vj (ww w)) }) ⟨rfl,rfl⟩) fun r s1 hr=>?_
 cases r with
 |error e=>exact hr
 |ok fl=>
  cases fl with
  |ret obj=>
   obtain⟨rfl,rfl⟩:=hr
   generalize hled:ww w=led at h
   have hS:(s.heap.push (vj led)).get? s.heap.objs.size=some (vj led):=Heap.get?_push_size _ rfl
   have hT:Shared.TypeIs { s with heap:=s.heap.push (vj led) } (.ref s.heap.objs.size) "set" := ⟨_,hS,rfl⟩
   have hli:=PySem.F.called_set.init.lookup;have hbi:=PySem.F.called_set.init.bind (.ref s.heap.objs.size)
   repeat (any_goals (first|assumption|wp_step))
   refine codeAny_mono (codeAny_call_builtin (R:=wants (AftS prog w s (sgs x) x.cps.size) E) PySem.F.called_set.init.plain PySem.F.entry_set_init (check_set_init_1 hT ?_)) fun r2 s2 hr2=>?_
   ·have hsls:=PySem.F.sub_str_set;have hslf:=PySem.F.sub_str_frozenset
    unfold Builtin.«set.__init__» noKeywords Builtin.Frozenset.updateFrom;generalize hPI:pyIter=PI
    wp_walk
    subst hPI
    refine wpAny_pyIter_str fun oI St hW hSt=>wpAny_bind (wpAny_runValue ?_)
    have hh3:A.in1.in1.in1.handled=none:=by simp[hh]
    have es:(s.heap.push (vj led)).objs.size=s.heap.objs.size+1:=Heap.size_push _ _
    have hSf:s.heap.objs.size∉[(s.heap.push (vj led)).objs.size]:=by
     rw[es];simp only[mem_cons,List.not_mem_nil,or_false];exact ne_of_lt (lt_succ_self _)
    refine VR (L:=led) ((hW _ hh3).toS) s.heap.objs.size hSf (fun i=>(sgs x).getD i "") (fun i v hv=>Mc hv) hb (x.cps.size-0) 0 _ (by lia) (zero_le _) hSt ?hS0 ?hR
    case hS0=>
     refine⟨vj led,#[],0,.fresh 0 0 led,get?_push_of_some _ hS,⟨rfl,rfl,rfl⟩,rfl,fun e he=>by simp at he,fun k=>by simp[Jr],by decide,by rfl,rfl,rfl,rfl,List.Pairwise.nil⟩
    case hR=>
     intro s' hm hS'
     obtain⟨h',g',d',tk',os'⟩:=s'
     have eg:g'=s.gens:=hm.gens;have ed:d'=s.drawn:=hm.drawn;have eo:os'=s.os:=hm.os
     subst eg;subst ed;subst eo
     show wpAny _ _ _ _ _ _;refine wpAny_pure ?_;show wpAny _ _ (ret Value.none) _ _ _
     refine wpAny_pure ⟨rfl,h',tk',rfl,by rw[hled];exact hS',fun b o hb e=>hm.heap b o ?_ (get?_push_of_some _ (get?_push_of_some _ e))⟩
     rw[es];simp only[mem_cons,List.not_mem_nil,or_false,not_or];exact⟨ne_of_lt hb,ne_of_lt (lt_succ_of_lt hb)⟩
   ·cases r2 with
    |error e=>exact hr2
    |ok fl2=>
     cases fl2 with
     |ret r=>
      obtain⟨rfl,h',tk,rfl,hS',hk'⟩:=hr2
      rw[hled] at hS'
      repeat (any_goals (first|assumption|wp_step))
      exact h _ _ hS' hk'
     |_=>exact hr2.elim
  |_=>exact hr.elim
end
end STW
set_option Elab.async false
set_option linter.all false
set_option maxRecDepth 100000
namespace FD
open PySem PySem.Spec PyProof.Rows L2
variable[Tabs]
section
variable{X:Cx}{e:Expr}{pos:Pos}{fs:FA}{fe:FE}
noncomputable def xL(d:D)(ds:List D):Rs D:=match X1 d ds with
 | some (x,y)=>.ok (.int (Txt.count x y))
 |none=>.no
theorem QL:MtR X "str.count" (fun v vs H Q=>∃x y,v=.str x∧vs=[.str y]∧Q (.int (Txt.count x y)) H):=by
 intro pins s σ H v vs u us Q I r rs h
 obtain⟨x,y,rfl,rfl,q⟩:=h
 obtain⟨t,rfl⟩:=r
 obtain⟨u',rfl,t',rfl⟩:=vals1 rs
 exact SC.count ⟨.int (Txt.count x y),H,I.tok _,⟨_,rfl⟩,q⟩
theorem uU:MtD X "str.count" xL:=⟨_,QL,fun F H v vs d ds Q fh r rs h=>by
 unfold xL at h
 cases q:X1 d ds with
 |none=>rw[q] at h;exact h.elim
 |some xy=>
  obtain⟨x,y⟩:=xy
  rw[q] at h
  obtain⟨rfl,rfl⟩:=V2 q
  simp only[Rep] at r;subst r
  obtain⟨w,rfl,e⟩:=rs.one
  simp only[Rep] at e;subst e
  exact⟨x,y,rfl,rfl,h _ F H (Ext.refl fh) (by simp only[Rep])⟩⟩
theorem Gm(n:Nat):(Builtin.Str.strSliceIndices none none 1 n).length=n:=by
 unfold Builtin.Str.strSliceIndices sliceRange
 simp only[length_map,length_range]
 have h0:(1:Int) > 0:=by decide
 simp only[h0,if_true]
 by_cases hn:(0:Int)<n
 ·rw[if_pos hn,Int.ediv_one];lia
 ·rw[if_neg hn];lia
theorem Gk(x:Str)(u:Tok):Txt.sliceBy x none none (1,u)=x:=by
 unfold Txt.sliceBy slicePicked
 rw[if_pos]
 have e:=Gm x.length
 show(true&&((Builtin.Str.strSliceIndices none none 1 x.length).length==x.length))=true
 rw[e];simp
noncomputable def X2:D→D→Rs D
 |.str x,.int k=>if x.length≤sizeLine then (if k=1 then .ok (.str x) else if k = -1 then .ok (.str ⟨x.cps.toList.reverse.toArray⟩) else .no) else .no
 |_,_=>.no
noncomputable def YX(fe fk:FE):FE:=fun τ=>(fe τ).bind fun d=>(fk τ).bind fun k=>X2 d k
theorem Uy{st:Expr}{p2:Pos}{fk:FE}(he:PDE X e fe)(hs:PDE X st fk):PDE X (.Subscript e (.Slice none none (some st) p2) pos) (YX fe fk):=by
 rintro pins s σ H Q I ⟨F,τ,R,h⟩
 refine Subscript_ (thn (he pins s σ H _ I (tE.of R h.bind fun d v F1 H1 g x R1 r=>(⟨d,F1,g,x,R1,r⟩:∃d F1,Ok X ((fk τ).bind fun k=>X2 d k) (Ev X.K F H Q)∧Ext F H F1 H1∧RV X.K F1 τ σ H1∧Rep X.K F1 d v))) fun v s1 z_=>?_)
 obtain⟨x,H1,I1,r1,d,F1,g,x1,R1,r⟩:=z_
 refine wpAny_Slice ?_
 rw[evalPart_none]
 refine wpAny_pure (wpAny_pure ?_)
 rw[evalPart_some]
 refine thn (hs pins s1 σ H1 (fun w H2=>∃dk F2,Ok X (X2 d dk) (Ev X.K F H Q)∧Ext F1 H1 F2 H2∧Rep X.K F2 dk w) I1 (tE.of R1 g.bind fun dk w F2 H2 g2 x2 R2 r2=>⟨dk,F2,g2,x2,r2⟩)) fun u s2 z_=>?_
 obtain⟨y,H2,I2,r2,dk,F2,g,x2,rk⟩:=z_
 have x12:=x1.trans x2
 have r:=r.mono x2.ff
 cases d with
 |str z=>
  cases dk with
  |int k=>
   simp only[Rep] at rk;subst rk
   obtain⟨tk,rfl⟩:=r2
   have I4:Inv X pins σ H2 { s2 with heap:=s2.heap.push { cls:=.type "slice", data:=.fields #[.none,.none,.int k tk] } }:=I2.kept (t':=s2.toks) fun b ob q=>get?_push_of_some _ q
   show wpAny (model X.prog X.w) X.A (subscriptTail e (.Slice none none (some st) p2) v (.ref s2.heap.objs.size)) (EP X pins σ Q) X.xe { s2 with heap:=s2.heap.push { cls:=.type "slice", data:=.fields #[.none,.none,.int k tk] } }
   simp only[Rep] at r;subst r
   obtain⟨t,rfl⟩:=r1
   obtain⟨hz,g⟩:z.length≤sizeLine∧Ok X (if k=1 then Rs.ok (D.str z) else if k = -1 then Rs.ok (D.str { cps:=z.cps.toList.reverse.toArray }) else Rs.no) (Ev X.K F H Q):=by
    by_cases hz:z.length≤sizeLine
    ·have g:Ok X (if z.length≤sizeLine then (if k=1 then Rs.ok (D.str z) else if k = -1 then Rs.ok (D.str { cps:=z.cps.toList.reverse.toArray }) else Rs.no) else Rs.no) (Ev X.K F H Q):=g
     rw[if_pos hz] at g;exact⟨hz,g⟩
    ·have g:Ok X (if z.length≤sizeLine then (if k=1 then Rs.ok (D.str z) else if k = -1 then Rs.ok (D.str { cps:=z.cps.toList.reverse.toArray }) else Rs.no) else Rs.no) (Ev X.K F H Q):=g
     rw[if_neg hz] at g;exact g.elim
   have hk:k=1∨k = -1:=by
    by_cases h1:k=1
    ·exact .inl h1
    ·by_cases h2:k = -1
     ·exact .inr h2
     ·rw[if_neg h1,if_neg h2] at g;exact g.elim
   have h0:k≠0:=by rcases hk with rfl|rfl <;> decide
   refine tail_any (ops:=[.str z t,.ref s2.heap.objs.size]) (typeIs_str _ _ _) PySem.F.slot_str_getitem.lookup (wpAny_getItem_str_slice (l:=none) (u:=none) (st:=some (k,tk)) ⟨_,Heap.get?_push_size _ rfl,rfl,rfl⟩ (by simpa using h0) (post_val_or_str ⟨le_trans (Txt.sliceBy_le z none none (k,tk) h0) hz,fun t' k'=>⟨.str (Txt.sliceBy z none none (k,tk)),H2,I4.tok _,⟨_,rfl⟩,?_⟩⟩)) (by with_unfolding_all rfl)
   rcases hk with rfl|rfl
   ·rw[if_pos rfl] at g
    rw[Gk]
    exact g _ F2 H2 x12 (by simp only[Rep])
   ·rw[if_neg (by decide),if_pos rfl] at g
    rw[J4]
    exact g _ F2 H2 x12 (by simp only[Rep])
  |_=>exact g.elim
 |_=>exact g.elim
noncomputable def Gs:Expr→Option D
 | .Constant (.str x) _ _=>some (.str x)
 | .Constant (.int i) _ _=>some (.int i)
 |_=>none
noncomputable def VL:List Expr→Option (List D)
 |[]=>some []
 |e::r=>(Gs e).bind fun d=>(VL r).map (d :: ·)
theorem YB:∀{es:List Expr} {ds:List D},VL es=some ds→PDA X es (fun _=>.ok ds):=fun {es}=>by
 induction es with
 |nil=>intro ds h;cases h;exact zp
 |cons e r ih=>
  intro ds h
  have h:((Gs e).bind fun d=>(VL r).map (d :: ·))=some ds:=h
  cases z:Gs e with
  |none=>rw[z] at h;cases h
  |some d=>
   rw[z,Option.bind_some] at h
   cases z2:VL r with
   |none=>rw[z2] at h;cases h
   |some ds'=>
    rw[z2] at h
    cases h
    unfold Gs at z
    split at z
    ·cases z;exact ze xz (ih z2) Yi
    ·cases z;exact ze zn (ih z2) Yi
    ·cases z
theorem UB{es:List Expr}{ds:List D}{x1}(h:VL es=some ds)(hl:ds.length≤100):PDE X (.Tuple es x1 pos) (fun _=>.ok (.tup ds)):=by
 have:=ZN (pos:=pos) (x1:=x1) (YB (X:=X) h)
 have e1:ur (fun _=>.ok ds)=fun _=>Rs.ok (D.tup ds):=by
  funext τ
  show(if ds.length≤sizeLine then Rs.ok (D.tup ds) else .no)=_
  rw[if_pos (by rw[sizeLine_eq];lia)]
 rw[e1] at this
 exact this
theorem UC{es:List Expr}{ds:List D}(h:VL es=some ds)(hl:ds.length≤100):PDE X (.List es pos) (fun _=>.ok (.lst ds)):=by
 have:=uS (pos:=pos) (YB (X:=X) h)
 have e1:vW (fun _=>.ok ds)=fun _=>Rs.ok (D.lst ds):=by
  funext τ
  show(if ds.length≤sizeLine then Rs.ok (D.lst ds) else .no)=_
  rw[if_pos (by rw[sizeLine_eq];lia)]
 rw[e1] at this
 exact this
noncomputable def Xk:List D→Rs (List D)
 |[.str x]=>if x.cps.size<64 then .ok ((STW.srtS (STW.fmS (STW.sgs x) x.cps.size)).map D.str) else .no
 |_=>.no
theorem ZM{p p2 pos2:Pos}(hc:X.calm=true)(hl:Gl X "sorted")(hml:X.mg "sorted" = none)(hg:Gl X "set")(hm:X.mg "set" = none)(ha:PDA X [e] fs)(hs:starEach [e] X.env=[(false,eval e X.env)]:=by rfl)
  (he:starEach [.Call (.Name "set" p2) [e] [] pos2] X.env=(false,eval (.Call (.Name "set" p2) [e] [] pos2) X.env)::starEach [] X.env:=by rfl) (hpl:(backTo pos (starEach [] X.env)).any (·.1)=false:=by rfl) :
  PDF X (.Call (.Name "sorted" p) [.Call (.Name "set" p2) [e] [] pos2] [] pos) (fun τ=>(fs τ).bind Xk):=by
 rintro pins s σ H Q I ⟨F,τ,R,h⟩
 refine wpAny_Call_Name_kw (uk I hl hml boot_sorted ?_)
 refine PyProof.Rows.callWith_builtin1 ?_ he hpl
 rw[he]
 show wpAny _ _ (spliced ((false,eval (.Call (.Name "set" p2) [e] [] pos2) X.env)::backTo pos (starEach [] X.env))) _ _ s
 refine Calls.spliced_cons ?_
 have h:=h.bind
 generalize hG:(fun ds=>Ok X (Xk ds) fun ds=>∀(p:Addr) (vs:List V) (F' H':Hp),Ext F H F' H'→H' p=none→Reps X.K F' ds vs→Q (V.ref p) (upd H' p (HO.lst vs)))=G at h
 refine Call_ (uk I hg hm boot_set (PyProof.Rows.callWith_type1 (thn (ha pos2 pins s σ H (fun vs H1=>∃ds F1,G ds∧Ext F H F1 H1∧RV X.K F1 τ σ H1∧Reps X.K F1 ds vs) I (tAs.of R h fun ds vs F1 H1 g x R1 r=>⟨ds,F1,g,x,R1,r⟩)) fun us s1 z_=>?_) hs rfl))
 obtain⟨vs,H1,I1,r1,ds,F1,g,x,R1,r⟩:=z_
 subst hG
 obtain⟨y,e1,h64,gq⟩:∃(y:Str),ds=[.str y]∧y.cps.size<64∧∀(p:Addr) (vs:List V) (F' H':Hp),Ext F H F' H'→H' p=none→Reps X.K F' ((STW.srtS (STW.fmS (STW.sgs y) y.cps.size)).map D.str) vs→Q (V.ref p) (upd H' p (HO.lst vs)):=by
  unfold Xk at g
  split at g
  ·rename_i y
   obtain⟨z,g⟩:=z6 g
   exact⟨y,rfl,z,g⟩
  ·exact g.elim
 subst e1
 obtain⟨v,rfl,r2⟩:=r.one
 simp only[Rep] at r2
 subst r2
 have hlen:=STW.sgs_len y
 cases r1 with
 |cons ra rr=>
  cases rr
  obtain⟨tk0,rfl⟩:=ra
  refine STW.callSetX (I1.ok.hd hc) (Nat.lt_of_le_of_lt (Nat.succ_le_of_lt h64) (by decide)) fun h' tk hS hk=>?_
  rw[← hlen] at hS gq h64
  refine Calls.spliced_nil ?_
  refine STW.sortSetS (s:={ s1 with heap:=h',toks:=tk }) (I1.ok.hd hc) hS h64 fun h2 d2 tk2 b out ep hb ho hsz hk2=>?_
  have kk:∀c u,s1.heap.get? c=some u→h2.get? c=some u:=fun c u q=>hk2 c u (hk c u (Heap.lt_size q) q)
  have hp:s1.heap.objs.size≤b:=by
   obtain⟨o2,_,_,_,ho2,_⟩:=hS
   exact le_trans (le_of_lt (Heap.lt_size ho2)) hsz
  have I2:=Vw d2 I1
  have nH:H1 b=none:=I1.hok.fresh hp
  have ll:((STW.srtS (STW.fmS (STW.sgs y) (STW.sgs y).length)).map V.str).length≤sizeLine:=by
   rw[length_map,(STW.srtS_perm _).length_eq]
   exact le_of_lt (wa (by have:=STW.fmT_le (fun i=>(STW.sgs y).getD i "") (STW.sgs y).length;show(STW.fmT _ _).length≤_;lia))
  exact⟨.ref b,_,I2.laid (t':=tk2) (o:=.lst ((STW.srtS (STW.fmS (STW.sgs y) (STW.sgs y).length)).map V.str)) kk hp ⟨ll,out,ep,VQ ho,hb⟩,rfl,gq b _ F1 H1 x nH (Reps.strs _)⟩
end
section
variable{τ:DS}{fa fb fc fe fi:FE}{fs:FA}{op:D→D→Rs D}{d x y:D}{i j k:Int}{n m:Nat}
noncomputable def getV:Option (Option Sl)→Rs D
 | some (some (.val d))=>.ok d
 |_=>.no
noncomputable def XF:Option (Option Sl)→Rs (List D)
 | some (some (.own d))=>.ok d
 |_=>.no
@[simp] theorem yj:getV (some (some (.val d)))=.ok d:=rfl
@[simp] theorem vU{ds:List D}:XF (some (some (.own ds)))=.ok ds:=rfl
theorem yE:zc n τ=getV τ[n]?:=rfl
theorem vJ:vK τ n=XF τ[n]?:=rfl
theorem xK:eC d τ=.ok d:=rfl
theorem xJ:eOp op fa fb τ=(fa τ).bind fun x=>(fb τ).bind fun y=>op x y:=rfl
theorem yd:zm τ=.ok []:=rfl
theorem zG:za fa fs τ=(fa τ).bind fun x=>(fs τ).bind fun r=>.ok (x::r):=rfl
theorem WN:vW fs τ=(fs τ).bind fun ds=>if ds.length≤sizeLine then .ok (.lst ds) else .no:=rfl
theorem Go:ur fs τ=(fs τ).bind fun ds=>if ds.length≤sizeLine then .ok (.tup ds) else .no:=rfl
theorem yM{g:List D→Rs D}:zx g fs τ=(fs τ).bind fun ds=>Vm (g ds):=rfl
theorem Z4{g:List D→Rs D}:wx g fs τ=(fs τ).bind g:=rfl
theorem Th:eOr fa fb τ=(fa τ).bind fun x=>(jJ x).bind fun b=>if b=true then .ok x else fb τ:=rfl
noncomputable def boolOf:D→Rs Bool
 |.bl b=>.ok b
 |_=>.no
@[simp] theorem Zq{b:Bool}:boolOf (.bl b)=.ok b:=rfl
theorem V0:FD.tB fe τ=(fe τ).bind boolOf:=rfl
theorem Zw:u4 fe τ=(fe τ).bind jJ:=rfl
theorem Zx{f g:FT}:xC f g τ=(f τ).bind fun b=>if b=true then g τ else .ok false:=rfl
theorem JO{f:FT}:Ye f τ=(f τ).bind fun b=>.ok (!b):=rfl
theorem Gq{T:String}{g:D→List D→Rs D}:xO T g fa τ=(fa τ).bind fun d=>if uJ T d=true then g d [] else .no:=rfl
theorem Tg{fl fh:FO}:eSl fe fl fh τ=(fe τ).bind fun d=>(fl τ).bind fun l=>(fh τ).bind fun u=>slD d l u:=rfl
noncomputable def X4:D→Rs (Option Int)
 |.int i=>.ok (some i)
 |_=>.no
@[simp] theorem Yj:X4 (.int i)=.ok (some i):=rfl
theorem UJ:Zb fe τ=(fe τ).bind X4:=rfl
noncomputable def Fl.thn(r:Fl)(g:FS):Fl:=match r with
 |.nx τ=>g τ
 |r=>r
@[simp] theorem yQ{g:FS}:(Fl.nx τ).thn g=g τ:=rfl
@[simp] theorem G5{g:FS}:(Fl.rt d).thn g=.rt d:=rfl
theorem yv{f g:FS}:zJ f g τ=(f τ).thn g:=rfl
theorem xP:yF n fe τ=Fl.of (fe τ) fun d=>.nx (τ.set n (some (.val d))):=rfl
theorem vB:Yn n fs τ=Fl.of (fs τ) fun ds=>.nx (τ.set n (some (.own ds))):=rfl
theorem xZ{g:FT}{f h:FS}:sIf g f h τ=Fl.of (g τ) fun b=>if b=true then f τ else h τ:=rfl
theorem xQ:yD fe τ=Fl.of (fe τ) fun d=>.rt d:=rfl
theorem vC:Yo n τ=Fl.of (vK τ n) fun ds=>.rt (.lst ds):=rfl
theorem xE:zY τ=.nx τ:=rfl
theorem X5{set:FG}{body:FS}:x6 fs set body τ=Fl.of (fs τ) fun ds=>yh set body ds τ:=rfl
@[simp] theorem xn:uC (.rt d)=.ok d:=rfl
@[simp] theorem wn:Vm (.ok d)=.ok d:=rfl
@[simp] theorem xh:zI (.int i) (.int j)=.ok (.int (i+j)):=rfl
theorem JH{a b:Str}(h:a.length+b.length≤sizeLine):zI (.str a) (.str b)=.ok (.str (a++b)):=if_pos h
@[simp] theorem Zy:v6 (.int i) (.int j)=.ok (.int (i-j)):=rfl
theorem x8(h:(-(18446744073709551616)<i∧i<18446744073709551616)∨(-(18446744073709551616)<j∧j<18446744073709551616)):y8 (.int i) (.int j)=.ok (.int (i*j)):=if_pos h
theorem jp(h:0<j):ZY (.int i) (.int j)=.ok (.int (i%j)):=by
 show(if decide (0<j)=true then _ else _)=_
 rw[if_pos (by simpa using h)]
theorem uX(h:0<j∧j<1073741824):jA (.int i) (.int j)=.ok (.int (i / j)):=by
 show(if decide (0<j∧j<1073741824)=true then _ else _)=_
 rw[if_pos (by simpa using h)]
@[simp] theorem Wy:ltI (.int i) (.int j)=.ok (.bl (decide (i<j))):=rfl
@[simp] theorem gtD_i:gtD (.int i) (.int j)=.ok (.bl (decide (j<i))):=rfl
@[simp] theorem GZ:eqD (.int i) (.int j)=.ok (.bl (i==j)):=rfl
@[simp] theorem Je{a b:Str}:inD (.str a) (.str b)=.ok (.bl (Yg a b)):=rfl
theorem v7(c:Nat)(x:Str):Yg ⟨#[c]⟩ x=decide (c∈x.cps.toList):=StrLaws.found_one x c
@[simp] theorem UZ{ns:List Int}:wE [.scr ns]=.ok (.int ns.length):=rfl
@[simp] theorem vQ{ds:List D}:wE [.lst ds]=.ok (.int ds.length):=rfl
theorem UY{a:Str}(h:a.length≤sizeLine):wE [.str a]=.ok (.int a.length):=if_pos h
theorem Q2{ns:List Int}{a:Int}(h:atI ns k=some a):ixD (.scr ns) (.int k)=.ok (.int a):=by
 show(match atI ns k with|some d=>Rs.ok (D.int d) | none=>.no)=_
 rw[h]
theorem Q3{ds:List D}{a:D}(h:atI ds k=some a):ixD (.lst ds) (.int k)=.ok a:=by
 show(match atI ds k with|some d=>Rs.ok d|none=>.no)=_
 rw[h]
theorem WG{a:Str}{c:Nat}(h:atI a.cps.toList k=some c)(hz:a.length≤sizeLine):ixD (.str a) (.int k)=.ok (zo c):=by
 show(match atI a.cps.toList k with|some c=>if a.length≤sizeLine then Rs.ok (D.str ⟨#[c]⟩) else .no|none=>.no)=_
 rw[h]
 exact if_pos hz
theorem XR{α:Type}{xs:List α}{a:α}(h0:0≤k)(h:xs[k.toNat]?=some a):atI xs k=some a:=by
 have:=WV (j:=k.toNat) h
 rwa [Int.toNat_of_nonneg h0] at this
@[simp] theorem JM{b:Bool}:jJ (.bl b)=.ok b:=rfl
theorem VY{a:Str}(h:a.length≤sizeLine):jJ (.str a)=.ok ((a.length:Int) != 0):=if_pos h
theorem y0{b:FS}{ds:List D}:wU n b ds=uC (b (yo n ds)):=rfl
end
theorem XH(l:List PyData):PyData.eqvAll l []=l.isEmpty:=by cases l <;> simp[PyData.eqvAll]
theorem QD(ns:List Int):okD (.scr ns)=true:=by
 have c:∀l:List Int,PyData.canLayAll0 (l.map PyData.int)=true:=fun l=>by
  induction l with
  |nil=>rfl
  |cons a r ih=>simp[PyData.canLayAll0,PyData.canLay0,ih]
 have d:∀l:List Int,PyData.depthAll (l.map PyData.int)=0:=fun l=>by
  induction l with
  |nil=>rfl
  |cons a r ih=>simp[PyData.depthAll,PyData.depth,ih]
 simp[okD,yw,yn,PyData.canLay0,PyData.depth,c,d]
theorem YW(ns:List Int):eqD (.scr ns) (.lst [])=.ok (.bl ns.isEmpty):=by
 have o2:okD (.lst [])=true:=by decide
 have:xN (.scr ns) (.lst [])=ns.isEmpty:=by
  simp only[xN,yn,toPys,PyData.eqv,XH]
  cases ns <;> rfl
 simp only[eqD,QD,o2,this,and_self,if_true]
end FD
set_option Elab.async false
set_option linter.all false
set_option maxRecDepth 100000
namespace Law
open PySem PySem.Spec PyProof.Rows L2 FD
instance tabs:FD.Tabs:=⟨[],fun c f=>(c == "Sieve" && f == "counts")⟩
noncomputable def uG:FS:=(zJ (sIf (tB (eOp eqD (zc 0) (vW zm))) (yD (eOp y8 (eC (.int 7)) (zc 1))) zY)
  (yD (eOp zI (eOp ixD (zc 0) (eOp ZY (zc 1) (wx wE (za (zc 0) zm)))) (eOp y8 (eC (.int 6553)) (eOp jA (zc 1) (wx wE (za (zc 0) zm)))))))
noncomputable def yW(ds:List D):Rs D:=wU 2 uG ds
noncomputable def v4:FS:=(zJ (yF 3 (eOp ZY (eOp zI (eOp y8 (eOp ZY (zx yW (za (zc 0) (za (zc 1) zm))) (eC (.int 2147483563))) (eC (.int 69069))) (eOp y8 (eC (.int 104723)) (eOp zI (zc 1) (eC (.int 1))))) (eC (.int 2147483563))))
  (zJ (yF 3 (eOp ZY (eOp zI (eOp y8 (zc 3) (zc 3)) (eOp jA (zc 3) (eC (.int 3)))) (eC (.int 2147483399))))
  (yD (eOp ZY (eOp jA (eOp ZY (eOp zI (eOp y8 (zc 3) (zc 3)) (eOp jA (zc 3) (eC (.int 7)))) (eC (.int 2147483647))) (eC (.int 11))) (zc 2)))))
noncomputable def zj(ds:List D):Rs D:=wU 4 v4 ds
noncomputable def uE:FS:=(zJ (yF 2 (eC (.str "")))
  (zJ (x6 (uo (za (eOp zI (eC (.int 1)) (zx zj (za (zc 0) (za (zc 1) (za (eC (.int 10)) zm))))) zm)) (gNm 3) (yF 2 (eOp zI (zc 2) (eOp ixD (eC (.str "abcabABCab1_-./xyz")) (zx zj (za (zc 0) (za (eOp zI (eOp zI (zc 1) (eC (.int 1))) (zc 3)) (za (eC (.int 18)) zm))))))))
  (yD (zc 2))))
noncomputable def zR(ds:List D):Rs D:=wU 4 uE ds
noncomputable def wt:FS:=(zJ (Yn 3 (yY 1 [0,1] (uo (za (zx zj (za (zc 0) (za (zc 1) (za (eOp zI (zc 2) (eC (.int 1))) zm)))) zm)) (gNm 0) (fun _=>.ok true) (zx zR (za (zc 1) (za (eOp zI (eOp zI (zc 2) (eC (.int 1))) (eOp y8 (eC (.int 12)) (zc 0))) zm)))))
  (zJ (sIf (xC (tB (eOp gtD (YY 3) (eC (.int 1)))) (tB (eOp eqD (zx zj (za (zc 0) (za (eOp zI (zc 1) (eC (.int 12))) (za (eC (.int 5)) zm)))) (eC (.int 0))))) (W6 3 (eC (.int 0)) (VF 3 (XI (eC (.int 1))))) zY)
  (Yo 3)))
noncomputable def z9(ds:List D):Rs D:=wU 4 wt ds
noncomputable def wZ:FS:=(JZ 1 (jy (xl (zc 0)) 2 (wV (zc 2))))
noncomputable def zH(ds:List D):Rs D:=wU 3 wZ ds
noncomputable def wf:FS:=(J0 0 "Sieve" "counts" (yY 1 [] (xl (zc 1)) (gNm 0) (fun _=>.ok true) (zx zH (za (zc 0) zm))))
noncomputable def zD(fs:Fs)(ds:List D):Rs (D×Fs):=Yq 2 0 "Sieve" wf fs ds
noncomputable def uF:FS:=(yD (eOp inD (zc 0) (eC (.str "_-./"))))
noncomputable def yk(ds:List D):Rs D:=wU 1 uF ds
noncomputable def v3:FS:=(zJ (yF 4 (eC (.str "")))
  (zJ (yF 5 (eC (.int 0)))
  (zJ (x6 (uo (za (zx zj (za (zc 0) (za (zc 1) (za (eOp zI (zc 3) (eC (.int 1))) zm)))) zm)) (gNm 6) (zJ (yF 5 (wx Zc (za (eOp v6 (wx wE (za (zc 2) zm)) (eC (.int 1))) (za (eOp zI (zc 5) (zx zj (za (zc 0) (za (eOp zI (eOp zI (zc 1) (eC (.int 1))) (eOp y8 (eC (.int 3)) (zc 6))) (za (eC (.int 3)) zm))))) zm))))
  (zJ (yF 7 (xO "str" loD (eOr (eSl (zc 2) (Zb (zc 5)) (Zb (eOp zI (zc 5) (eC (.int 1))))) (eC (.str "a")))))
  (zJ (yF 5 (eOp zI (zc 5) (eC (.int 1))))
  (zJ (sIf (tB (eOp eqD (zx zj (za (zc 0) (za (eOp zI (eOp zI (zc 1) (eC (.int 2))) (eOp y8 (eC (.int 3)) (zc 6))) (za (eC (.int 5)) zm)))) (eC (.int 0)))) (yF 7 (eOp ixD (eC (.str "abAB1c")) (zx zj (za (zc 0) (za (eOp zI (eOp zI (zc 1) (eC (.int 3))) (eOp y8 (eC (.int 3)) (zc 6))) (za (eC (.int 6)) zm)))))) zY)
  (sIf (Ye (u4 (zx yk (za (zc 7) zm)))) (yF 4 (eOp zI (zc 4) (zc 7))) zY))))))
  (yD (zc 4)))))
noncomputable def z8(ds:List D):Rs D:=wU 8 v3 ds
noncomputable def wK:FS:=(zJ (x6 (xl (zc 0)) (gNm 2) (zJ (sIf (tB (eOp ltI (eMt "str" xL (xO "str" loD (zc 1)) (za (xO "str" loD (zc 2)) zm)) (eMt "str" xL (xO "str" loD (zc 0)) (za (xO "str" loD (zc 2)) zm)))) (yD (eC (.bl false))) zY)
  (sIf (xC (tB (eOp neD (zc 2) (xO "str" loD (zc 2)))) (tB (eOp ltI (eMt "str" xL (zc 1) (za (zc 2) zm)) (eMt "str" xL (zc 0) (za (zc 2) zm))))) (yD (eC (.bl false))) zY)))
  (yD (eC (.bl true))))
noncomputable def zQ(ds:List D):Rs D:=wU 3 wK ds
noncomputable def va:FS:=(ZH 1 0 "Sieve" "counts" 2 (jy (jw (zc 2)) 3 (wV (zc 3))))
noncomputable def yf(fs:Fs)(ds:List D):Rs D:=Xm 4 0 "Sieve" va fs ds
noncomputable def xW:FS:=(yD (eOp zI (vn (zc 0) (xO "str" loD (zc 1)) (eC (.int 0))) (vn (zc 0) (xO "str" upD (zc 1)) (eC (.int 0)))))
noncomputable def zF(ds:List D):Rs D:=wU 2 xW ds
noncomputable def vZ:FS:=(zJ (x6 (jw (zc 1)) (gNm 2) (zJ (sIf (xC (tB (eOp vd (zc 2) (eC (.str "abcdefghijklmnopqrstuvwxyz")))) (tB (eOp ltI (vn (zc 0) (zc 2) (eC (.int 0))) (Ju (zc 1) (zc 2))))) (yD (eC (.bl false))) zY)
  (sIf (xC (tB (eOp vd (zc 2) (eC (.str "0123456789")))) (tB (eOp ltI (zx zF (za (zc 0) (za (zc 2) zm))) (zx zF (za (zc 1) (za (zc 2) zm)))))) (yD (eC (.bl false))) zY)))
  (yD (eC (.bl true))))
noncomputable def yz(ds:List D):Rs D:=wU 3 vZ ds
noncomputable def v5:FS:=(zJ (yF 2 (zx zH (za (zc 1) zm)))
  (yD (fun τ=>((yY 2 [2] (Gd 0 "Sieve" "counts") (gPr 0 1) (u4 (zx yz (za (zc 1) (za (zc 2) zm)))) (zc 0)) τ).bind fun ds=>.ok (.lst ds))))
noncomputable def ya(fs:Fs)(ds:List D):Rs D:=Xm 3 0 "Sieve" v5 fs ds
noncomputable def uH:FS:=(zJ (X6 0 "Sieve" "counts" (zx zH (za (zc 1) zm)))
  (Yp (eOp v6 (YZ 0 "Sieve" "counts") (eC (.int 1)))))
noncomputable def ym(fs:Fs)(ds:List D):Rs (D×Fs):=Yq 2 0 "Sieve" uH fs ds
noncomputable def G1:FS:=(zJ (yF 1 (zx z9 (za (zc 0) (za (eC (.int 0)) (za (eC (.int 5)) zm)))))
  (zJ (wW 2 "Sieve" zD (za (zc 1) zm))
  (zJ (yF 3 (zx zR (za (zc 0) (za (eC (.int 66)) zm))))
  (zJ (x6 (xl (ur (za (zc 1) (za (eOp zI (zc 1) (vW (za (zc 3) zm))) zm)))) (gNm 4) (zJ (yF 5 (eOp zI (zc 4) (vW (za (eC (.str "abc")) zm))))
  (zJ (x6 (uo (za (eC (.int 3)) zm)) (gNm 6) (zJ (yF 7 (zx z8 (za (zc 0) (za (eOp zI (eC (.int 80)) (eOp y8 (eC (.int 20)) (zc 6))) (za (eOp ixD (zc 5) (zx zj (za (zc 0) (za (eOp v6 (eC (.int 79)) (zc 6)) (za (wx wE (za (zc 5) zm)) zm))))) (za (eC (.int 4)) zm))))))
  (zJ (yF 7 (YX (zc 7) (eOp v6 (eC (.int 1)) (eOp y8 (eC (.int 2)) (zx zj (za (zc 0) (za (eOp zI (eC (.int 95)) (eOp y8 (eC (.int 20)) (zc 6))) (za (eC (.int 2)) zm))))))))
  (sIf (tB (eOp neD (xr 2 "Sieve" "left" ya (za (zc 7) zm)) (fun τ=>((yY 2 [7] (iEn (za (zc 4) zm)) (gPr 0 1) (u4 (zx zQ (za (zc 2) (za (zc 1) zm)))) (zc 0)) τ).bind fun ds=>.ok (.lst ds)))) (yD (eC (.bl false))) zY))))
  (zJ (yF 8 (fun τ=>(((za (eMt "str" jt (eC (.str "")) (za (zc 4) zm)) zm) τ).bind Xk).bind fun ds=>.ok (.lst ds)))
  (zJ (sIf (tB (eOp neD (xr 2 "Sieve" "signs" yf zm) (fun τ=>((yY 1 [4] (xl (zc 8)) (gNm 0) (fun _=>.ok true) (ur (za (zc 0) (za (wx wE (za (fun τ=>((yY 1 [0] (xl (zc 1)) (gNm 0) (tB (eOp inD (zc 1) (zc 0))) (zc 0)) τ).bind fun ds=>.ok (.lst ds)) zm)) zm)))) τ).bind fun ds=>.ok (.lst ds)))) (yD (eC (.bl false))) zY)
  (Ua (YD (Vg (tB (eOp eqD (zc 4) (zc 1)))) (oB (oOp neD (jm 2 "Sieve" "add" ym (za (zc 3) zm)) (wx wE (za (zc 1) zm))))) (yD (eC (.bl false))) zY))))))
  (zJ (yF 9 (fun _=>.ok (.lst [.str "Ab1", .str "AAb11", .str "ab", .str "B2a", .str "aAb"])))
  (zJ (wW 10 "Sieve" zD (za (zc 9) zm))
  (zJ (x6 (xl (fun _=>.ok (.tup [.str "A", .str "AA", .str "1", .str "11", .str "a", .str "aa", .str "Aa", .str "bB", .str "2", .str "ab1", .str "A1b", .str "aaa", .str ""]))) (gNm 7) (sIf (tB (eOp neD (xr 10 "Sieve" "left" ya (za (zc 7) zm)) (fun τ=>((yY 2 [7] (iEn (za (zc 9) zm)) (gPr 0 1) (u4 (zx zQ (za (zc 2) (za (zc 1) zm)))) (zc 0)) τ).bind fun ds=>.ok (.lst ds)))) (yD (eC (.bl false))) zY))
  (yD (eC (.bl true))))))))))
noncomputable def Wv(ds:List D):Rs D:=wU 11 G1 ds
noncomputable def uD(ns:List Int)(k:Int):Int:=if ns=[] then 7*k else ns.getD (k%ns.length).toNat 0+6553*(k / ns.length)
theorem z0:sizeLine=16777216:=sizeLine_eq
theorem Gu(ns:List Int)(k:Int)(h63:ns.length≤63)(h0:0≤k):yW [.scr ns,.int k]=.ok (.int (uD ns k)):=by
 have st:yo 2 [D.scr ns,.int k]=[some (.val (.scr ns)),some (.val (.int k))]:=rfl
 unfold yW uG
 rw[y0,st]
 simp only[yv,xZ,V0,xJ,yE,WN,yd,getElem?_cons_zero,yj,Rs.bind_ok,List.length_nil,zero_le,if_true,YW,Zq,Fl.of_ok]
 cases ns with
 |nil=>
  simp only[List.isEmpty_nil,if_true,xQ,xJ,xK,yE,getElem?_cons_zero,getElem?_cons_succ,yj,Rs.bind_ok,x8 (i:=7) (j:=k) (.inl ⟨by decide,by decide⟩),Fl.of_ok,G5,xn,uD]
 |cons a r=>
  have hl:(0:Int)<((a::r).length:Int):=by simp only[length_cons];lia
  have hm0:=emod_nonneg k (show((a::r).length:Int)≠0 by lia)
  have hm1:=Int.emod_lt_of_pos k hl
  have hat:atI (a::r) (k%((a::r).length:Int))=some ((a::r).getD (k%((a::r).length:Int)).toNat 0):=by
   refine XR hm0 ?_
   have:(k%((a::r).length:Int)).toNat<(a::r).length:=by lia
   rw[List.getD_eq_getElem?_getD,getElem?_eq_getElem this];rfl
  have hdv:jA (.int k) (.int ((a::r).length:Int))=.ok (.int (k / ((a::r).length:Int))):=uX ⟨hl,by lia⟩
  have hmd:ZY (.int k) (.int ((a::r).length:Int))=.ok (.int (k%((a::r).length:Int))):=jp hl
  have hml:=x8 (i:=6553) (j:=k / ((a::r).length:Int)) (.inl ⟨by decide,by decide⟩)
  simp only[List.isEmpty_cons,Bool.false_eq_true,if_false,xE,yQ,xQ,xJ,xK,yE,Z4,zG,yd,getElem?_cons_zero,getElem?_cons_succ,yj,Rs.bind_ok,UZ,hmd,hdv,hml,Q2 hat,xh,Fl.of_ok,xn]
  simp[uD]
noncomputable def d1(ns:List Int)(k:Int):Int:=(uD ns k%2147483563*69069+104723*(k+1))%2147483563
noncomputable def d2(ns:List Int)(k:Int):Int:=(d1 ns k*d1 ns k+d1 ns k / 3)%2147483399
noncomputable def yN(ns:List Int)(k m:Int):Int:=(d2 ns k*d2 ns k+d2 ns k / 7)%2147483647 / 11%m
theorem xi(ns:List Int)(k m:Int)(h63:ns.length≤63)(h0:0≤k)(hk:k<1000000)(hm:0<m):zj [.scr ns,.int k,.int m]=.ok (.int (yN ns k m)):=by
 have st:yo 4 [D.scr ns,.int k,.int m]=[some (.val (.scr ns)),some (.val (.int k)),some (.val (.int m)),none]:=rfl
 have b1:0≤d1 ns k∧d1 ns k<2147483563:=⟨emod_nonneg _ (by decide),Int.emod_lt_of_pos _ (by decide)⟩
 have b2:0≤d2 ns k∧d2 ns k<2147483399:=⟨emod_nonneg _ (by decide),Int.emod_lt_of_pos _ (by decide)⟩
 have c0:=Int.emod_lt_of_pos (uD ns k) (show(0:Int)<2147483563 by decide)
 have c1:=emod_nonneg (uD ns k) (show(2147483563:Int)≠0 by decide)
 have q1:=x8 (i:=uD ns k%2147483563) (j:=69069) (.inr ⟨by decide,by decide⟩)
 have q2:=x8 (i:=104723) (j:=k+1) (.inl ⟨by decide,by decide⟩)
 have q3:=x8 (i:=d1 ns k) (j:=d1 ns k) (.inl ⟨by lia,by lia⟩)
 have q4:=x8 (i:=d2 ns k) (j:=d2 ns k) (.inl ⟨by lia,by lia⟩)
 have e1:(uD ns k%2147483563*69069+104723*(k+1))%2147483563=d1 ns k:=rfl
 have e2:(d1 ns k*d1 ns k+d1 ns k / 3)%2147483399=d2 ns k:=rfl
 have m1:=fun i=>jp (i:=i) (j:=2147483563) (by decide)
 have m2:=fun i=>jp (i:=i) (j:=2147483399) (by decide)
 have m3:=fun i=>jp (i:=i) (j:=2147483647) (by decide)
 have m4:=fun i=>jp (i:=i) (j:=m) hm
 have f3:=fun i=>uX (i:=i) (j:=3) ⟨by decide,by decide⟩
 have f7:=fun i=>uX (i:=i) (j:=7) ⟨by decide,by decide⟩
 have f11:=fun i=>uX (i:=i) (j:=11) ⟨by decide,by decide⟩
 unfold zj v4
 rw[y0,st]
 simp only[yv,xP,xQ,xJ,yE,xK,yM,zG,yd,getElem?_cons_zero,getElem?_cons_succ,yj,Rs.bind_ok,Gu ns k h63 h0,wn,m1,q1,xh,q2,e1,Fl.of_ok,yQ,set_cons_succ,set_cons_zero,q3,f3,m2,e2,q4,f7,m3,f11,m4,xn]
 rfl
theorem xj(ns:List Int)(k:Int){m:Int}(hm:0<m):0≤yN ns k m∧yN ns k m<m:=⟨emod_nonneg _ (by lia),Int.emod_lt_of_pos _ hm⟩
end Law
set_option Elab.async false
set_option linter.all false
namespace FD
open PySem PySem.Spec PyProof.Rows L2
theorem Zf{set:FG}{body:FS}(f:Nat→D)(S:Nat→DS):∀(m j:Nat),(∀k,j≤k→k<j+m→∃τ1,set (f k) (S k)=.ok τ1∧body τ1=.nx (S (k+1)))→yh set body ((List.range' j m).map f) (S j)=.nx (S (j+m)):=by
 intro l_
 induction l_ with
 |zero=>
  rintro j _
  exact rfl
 |succ m ih_=>
  rintro j h
  obtain⟨τ1,h1,h2⟩:=h j (le_refl _) (by lia)
  rw[List.range'_succ,map_cons,yh,h1,Fl.of_ok]
  simp only[h2]
  rw[ih_ (j+1) fun k hk hk2=>h k (by lia) (by lia)]
  congr 2;lia
theorem Xz{set:FG}{body:FS}(f:Nat→D)(S:Nat→DS)(n:Nat)(h:∀k,k<n→∃τ1,set (f k) (S k)=.ok τ1∧body τ1=.nx (S (k+1))):yh set body ((List.range n).map f) (S 0)=.nx (S n):=by
 have:=Zf f S n 0 fun k _ hk=>h k (by lia)
 rw[zero_add] at this
 rwa [List.range_eq_range']
theorem Xn{fs:FA}{τ:DS}{j:Int}(h:fs τ=.ok [.int j])(h1 : -(2 ^ 62)≤j)(h2:j<2 ^ 62):uo fs τ=.ok (Yr 0 j.toNat):=by
 unfold uo
 rw[h]
 simp only[Rs.bind_ok,Jd]
 rw[if_pos ⟨h1,h2⟩]
theorem XZ(a:List Nat)(c:Nat):(⟨a.toArray⟩:Str)++(⟨#[c]⟩:Str)=⟨(a++[c]).toArray⟩:=by
 show Str.mk _=_
 simp
theorem Jp{n:Nat}{d:D}{τ:DS}:gNm n d τ=.ok (τ.set n (some (.val d))):=rfl
end FD
namespace Law
open PySem PySem.Spec PyProof.Rows L2 FD
noncomputable def A18:List Nat:=[97,98,99,97,98,65,66,67,97,98,49,95,45,46,47,120,121,122]
noncomputable def jn(ns:List Int)(a:Int):Nat:=(1+yN ns a 10).toNat
noncomputable def UT(ns:List Int)(a:Int)(k:Nat):Nat:=A18.getD (yN ns (a+1+k) 18).toNat 0
noncomputable def xH(ns:List Int)(a:Int)(n:Nat):List Nat:=(List.range n).map (UT ns a)
theorem a18:("abcabABCab1_-./xyz" : Str).cps.toList=A18:=by decide +kernel
theorem Wt(ns:List Int)(a:Int)(h63:ns.length≤63)(h0:0≤a)(ha:a<900000):zR [.scr ns,.int a]=.ok (.str ⟨(xH ns a (jn ns a)).toArray⟩):=by
 have st:yo 4 [D.scr ns,.int a]=[some (.val (.scr ns)),some (.val (.int a)),none,none]:=rfl
 have dl:=xj ns a (m:=10) (by decide)
 unfold zR uE
 rw[y0,st,yv,xP,xK,Fl.of_ok,yQ,yv,X5]
 have r1:=Xn (fs:=za (eOp zI (eC (.int 1)) (zx zj (za (zc 0) (za (zc 1) (za (eC (.int 10)) zm))))) zm) (τ:=[some (.val (.scr ns)),some (.val (.int a)),some (.val (.str "")),none]) (j:=1+yN ns a 10)
  (by simp only[zG,yd,xJ,xK,yM,yE,getElem?_cons_zero,getElem?_cons_succ,yj,Rs.bind_ok,xi ns a 10 h63 h0 (by lia) (by decide),wn,xh]) (by lia) (by lia)
 simp only[set_cons_succ,set_cons_zero]
 rw[r1,Fl.of_ok]
 let S:Nat→DS:=fun k=>[some (.val (.scr ns)),some (.val (.int a)),some (.val (.str ⟨(xH ns a k).toArray⟩)),if k=0 then none else some (.val (.int ((k:Int)-1)))]
 have s0:S 0=[some (.val (.scr ns)),some (.val (.int a)),some (.val (.str "")),none]:=by
  simp only[S,xH,List.range_zero,map_nil,if_true]
  rfl
 rw[← s0]
 have lp:=Xz (set:=gNm 3) (body:=(yF 2 (eOp zI (zc 2) (eOp ixD (eC (.str "abcabABCab1_-./xyz")) (zx zj (za (zc 0) (za (eOp zI (eOp zI (zc 1) (eC (.int 1))) (zc 3)) (za (eC (.int 18)) zm)))))))) (fun (k:Nat)=>D.int (0+k)) S (1+yN ns a 10).toNat fun k hk=>by
  refine⟨_,Jp,?_⟩
  have hk':(k:Int)<20:=by lia
  have dk:=xj ns (a+1+(0+(k:Int))) (m:=18) (by decide)
  have hd:=xi ns (a+1+(0+(k:Int))) 18 h63 (by lia) (by lia) (by decide)
  have hix:=WG (a := "abcabABCab1_-./xyz") (k:=yN ns (a+1+(0+(k:Int))) 18) (c:=A18.getD (yN ns (a+1+(0+(k:Int))) 18).toNat 0) (XR dk.1 (by
   rw[a18]
   have:(yN ns (a+1+(0+(k:Int))) 18).toNat<A18.length:=by
    have:A18.length=18:=rfl
    lia
   rw[List.getD_eq_getElem?_getD,getElem?_eq_getElem this];rfl)) (by decide +kernel)
  have hadd:=JH (a:=⟨(xH ns a k).toArray⟩) (b:=⟨#[A18.getD (yN ns (a+1+(0+(k:Int))) 18).toNat 0]⟩) (by
   show(xH ns a k).toArray.size+1≤sizeLine
   rw[z0,size_toArray]
   simp only[xH,length_map,length_range];lia)
  simp only[S,set_cons_succ,set_cons_zero,xP,xJ,xK,yM,zG,yd,yE,getElem?_cons_zero,getElem?_cons_succ,yj,Rs.bind_ok,xh,hd,wn,hix,zo,hadd,Fl.of_ok,XZ]
  have e1:xH ns a k++[A18.getD (yN ns (a+1+(0+(k:Int))) 18).toNat 0]=xH ns a (k+1):=by
   simp only[xH,List.range_succ,map_append,map_cons,map_nil,UT,Int.zero_add]
  rw[e1]
  simp
 unfold Yr
 rw[lp,yQ]
 simp only[S,xQ,yE,getElem?_cons_zero,getElem?_cons_succ,yj,Fl.of_ok,xn]
 rfl
end Law
set_option Elab.async false
set_option linter.all false
namespace FD
open PySem PySem.Spec PyProof.Rows L2
theorem YK{set:FG}{body:FS}(f:Nat→D)(I:Nat→DS→Prop):∀(m j:Nat) (τ:DS),I j τ→(∀k τ,j≤k→k<j+m→I k τ→∃τ1 τ2,set (f k) τ=.ok τ1∧body τ1=.nx τ2∧I (k+1) τ2)→∃τ',yh set body ((List.range' j m).map f) τ=.nx τ'∧I (j+m) τ':=by
 intro l_
 induction l_ with
 |zero=>
  rintro j τ h _
  exact⟨τ,rfl,h⟩
 |succ m ih_=>
  rintro j τ h hs
  obtain⟨τ1,τ2,h1,h2,h3⟩:=hs j τ (le_refl _) (by lia) h
  obtain⟨τ',h4,h5⟩:=ih_ (j+1) τ2 h3 fun k τ hk hk2=>hs k τ (by lia) (by lia)
  refine⟨τ',?_,by rw[show j+(m+1)=j+1+m by lia];exact h5⟩
  rw[List.range'_succ,map_cons,yh,h1,Fl.of_ok]
  simp only[h2,h4]
theorem Vp{set:FG}{body:FS}(f:Nat→D)(I:Nat→DS→Prop)(n:Nat)(τ:DS)(h0:I 0 τ)(h:∀k τ,k<n→I k τ→∃τ1 τ2,set (f k) τ=.ok τ1∧body τ1=.nx τ2∧I (k+1) τ2):∃τ',yh set body ((List.range n).map f) τ=.nx τ'∧I n τ':=by
 obtain⟨τ',h1,h2⟩:=YK f I n 0 τ h0 fun k τ _ hk hi=>h k τ (by lia) hi
 rw[zero_add] at h2
 exact⟨τ',by rw[List.range_eq_range'];exact h1,h2⟩
end FD
namespace Law
open PySem PySem.Spec PyProof.Rows L2 FD
noncomputable def QS:List Nat:=[97,98,99,120,121,122,65,66,49]
noncomputable def MK:List Nat:=[95,45,46,47]
theorem mk_l:("_-./" : Str).cps.toList=MK:=by decide +kernel
theorem QR(c:Nat):yk [zo c]=.ok (.bl (decide (c∈MK))):=by
 have st:yo 1 [zo c]=[some (.val (zo c))]:=rfl
 unfold yk uF
 rw[y0,st]
 simp only[xQ,xJ,yE,xK,getElem?_cons_zero,yj,Rs.bind_ok,zo,Je,v7,mk_l,Fl.of_ok,xn]
theorem V5(x:List Nat){i j:Int}(h0:0≤i)(h1:i≤j)(h2:j≤x.length):Txt.slice (⟨x.toArray⟩:Str) (some i) (some j)=⟨((x.drop i.toNat).take (j-i).toNat).toArray⟩:=by
 have:=slice_closesL (x:=⟨x.toArray⟩) (i:=i) (j:=j) h0 h1 (by show j≤((x.toArray.size:Nat):Int);simpa using h2)
 exact eq_of_beq this
theorem W2(x:List Nat)(p:Nat)(hp:p<x.length):Txt.slice (⟨x.toArray⟩:Str) (some (p:Int)) (some ((p:Int)+1))=⟨#[x[p]]⟩:=by
 rw[V5 x (by lia) (by lia) (by lia)]
 have e1:((p:Int)+1-(p:Int)).toNat=1:=by lia
 have e2:((p:Int)).toNat=p:=by lia
 rw[e1,e2,drop_eq_getElem_cons hp]
 rfl
theorem Vo(c:Nat)(h:c<128):Txt.lower (⟨#[c]⟩:Str)=⟨#[lo1 c]⟩:=by
 rw[lower_ascii (x:=⟨#[c]⟩) (by intro d hd;have e:d=c:=(by simpa using hd);lia)]
 simp
noncomputable def NS:List Nat:=[97,98,99,65,66,67,49,95,45,46,47,120,121,122]
theorem Vn(ns:List Int)(a:Int)(k:Nat)(h:0≤a+1+k):UT ns a k∈NS:=by
 have d:=xj ns (a+1+k) (m:=18) (by decide)
 have hall:∀n,n<18→A18.getD n 0∈NS:=by decide
 exact hall _ (by lia)
noncomputable def S6:List Nat:=[97,98,65,66,49,99]
theorem s6_l:("abAB1c" : Str).cps.toList=S6:=by decide +kernel
theorem WA:∀c∈NS,c<128∧(lo1 c∈QS∨lo1 c∈MK):=by decide
theorem J1:∀n,n<6→S6.getD n 0∈QS:=by decide
set_option maxHeartbeats 1000000
noncomputable def Ys:FS:=(zJ (yF 5 (wx Zc (za (eOp v6 (wx wE (za (zc 2) zm)) (eC (.int 1))) (za (eOp zI (zc 5) (zx zj (za (zc 0) (za (eOp zI (eOp zI (zc 1) (eC (.int 1))) (eOp y8 (eC (.int 3)) (zc 6))) (za (eC (.int 3)) zm))))) zm))))
  (zJ (yF 7 (xO "str" loD (eOr (eSl (zc 2) (Zb (zc 5)) (Zb (eOp zI (zc 5) (eC (.int 1))))) (eC (.str "a")))))
  (zJ (yF 5 (eOp zI (zc 5) (eC (.int 1))))
  (zJ (sIf (FD.tB (eOp eqD (zx zj (za (zc 0) (za (eOp zI (eOp zI (zc 1) (eC (.int 2))) (eOp y8 (eC (.int 3)) (zc 6))) (za (eC (.int 5)) zm)))) (eC (.int 0)))) (yF 7 (eOp ixD (eC (.str "abAB1c")) (zx zj (za (zc 0) (za (eOp zI (eOp zI (zc 1) (eC (.int 3))) (eOp y8 (eC (.int 3)) (zc 6))) (za (eC (.int 6)) zm)))))) zY)
  (sIf (Ye (u4 (zx yk (za (zc 7) zm)))) (yF 4 (eOp zI (zc 4) (zc 7))) zY)))))
noncomputable def qSt(ns:List Int)(a:Int)(x:List Nat)(most:Int)(q:List Nat)(p:Int)(s1 s2:Option Sl):DS:=
 [some (.val (.scr ns)),some (.val (.int a)),some (.val (.str ⟨x.toArray⟩)),some (.val (.int most)),some (.val (.str ⟨q.toArray⟩)),some (.val (.int p)),s1,s2]
theorem Xo(ns:List Int)(a:Int)(x:List Nat)(most:Int)(q:List Nat)(p:Int)(k:Nat)(s2:Option Sl)(h63:ns.length≤63)(h0:0≤a)(ha:a<900000)(hk:k<100)(hx0:0<x.length)(hx1:x.length≤100)(hx:∀c∈x,c∈NS)(hq:q.length≤100)(hqs:∀c∈q,c∈QS)(hp:0≤p) :
  ∃q' p' s',Ys (qSt ns a x most q p (some (.val (.int (0+k)))) s2)=.nx (qSt ns a x most q' p' (some (.val (.int (0+k)))) s')∧q'.length≤q.length+1∧(∀c∈q',c∈QS)∧0≤p':=by
 have hl:((⟨x.toArray⟩:Str).length:Int)=x.length:=by show((x.toArray.size:Nat):Int)=_;simp
 have hsz:(⟨x.toArray⟩:Str).length≤sizeLine:=by rw[z0];show x.toArray.size≤_;simp;lia
 have m3:=x8 (i:=3) (j:=0+(k:Int)) (.inl ⟨by decide,by decide⟩)
 have g1:=xi ns (a+1+3*(0+(k:Int))) 3 h63 (by lia) (by lia) (by decide)
 have g2:=xi ns (a+2+3*(0+(k:Int))) 5 h63 (by lia) (by lia) (by decide)
 have g3:=xi ns (a+3+3*(0+(k:Int))) 6 h63 (by lia) (by lia) (by decide)
 have b1:=xj ns (a+1+3*(0+(k:Int))) (m:=3) (by decide)
 have b3:=xj ns (a+3+3*(0+(k:Int))) (m:=6) (by decide)
 generalize yN ns (a+1+3*(0+(k:Int))) 3=e1 at *
 generalize yN ns (a+2+3*(0+(k:Int))) 5=e2 at *
 generalize yN ns (a+3+3*(0+(k:Int))) 6=e3 at *
 obtain⟨n,hn,hmin⟩:∃n:Nat,n<x.length∧(if p+e1<(x.length:Int)-1 then p+e1 else (x.length:Int)-1)=(n:Int):=by
  by_cases h:p+e1<(x.length:Int)-1
  ·exact⟨(p+e1).toNat,by lia,by rw[if_pos h];lia⟩
  ·exact⟨x.length-1,by lia,by rw[if_neg h];lia⟩
 have hmn:Zc [.int ((x.length:Int)-1),.int (p+e1)]=.ok (.int n):=by
  simp only[Zc,Jc];rw[hmin]
 have hsl:slD (.str ⟨x.toArray⟩) (some (n:Int)) (some ((n:Int)+1))=.ok (.str ⟨#[x[n]]⟩):=by
  simp only[slD]
  rw[if_pos hsz,W2 x n hn]
 have hxn:=hx x[n] (getElem_mem hn)
 have hlo:loD (.str ⟨#[x[n]]⟩) []=.ok (.str ⟨#[lo1 x[n]]⟩):=by
  simp only[loD]
  rw[if_pos (by show 1≤5000000;decide),Vo _ (WA _ hxn).1]
 have htr:jJ (.str ⟨#[x[n]]⟩)=.ok true:=by
  rw[VY (by rw[z0];show 1≤_;decide)];rfl
 have hix:ixD (.str "abAB1c") (.int e3)=.ok (zo (S6.getD e3.toNat 0)):=WG (XR b3.1 (by
   rw[s6_l]
   have:e3.toNat<S6.length:=by show e3.toNat<6;lia
   rw[List.getD_eq_getElem?_getD,getElem?_eq_getElem this];rfl)) (by decide +kernel)
 have key:∀c:Nat,(c∈QS∨c∈MK)→∃q' s',(sIf (Ye (u4 (zx yk (za (zc 7) zm)))) (yF 4 (eOp zI (zc 4) (zc 7))) zY) (qSt ns a x most q ((n:Int)+1) (some (.val (.int (0+k)))) (some (.val (zo c))))=.nx (qSt ns a x most q' ((n:Int)+1) (some (.val (.int (0+k)))) s')∧q'.length≤q.length+1∧∀c∈q',c∈QS:=fun c hc=>by
  have hadd:=JH (a:=⟨q.toArray⟩) (b:=⟨#[c]⟩) (by
   show q.toArray.size+1≤sizeLine
   rw[z0,size_toArray];lia)
  simp only[qSt,xZ,JO,Zw,yM,zG,yd,yE,getElem?_cons_zero,getElem?_cons_succ,yj,Rs.bind_ok,QR,wn,JM,Fl.of_ok]
  by_cases hm:c∈MK
  ·exact⟨q,some (.val (zo c)),by simp only[hm,decide_true,Bool.not_true,Bool.false_eq_true,if_false,xE],by lia,hqs⟩
  ·refine⟨q++[c],some (.val (zo c)),by simp only[hm,decide_false,Bool.not_false,if_true,xP,xJ,yE,getElem?_cons_zero,getElem?_cons_succ,yj,Rs.bind_ok,zo,hadd,Fl.of_ok,set_cons_succ,set_cons_zero,XZ],by simp,fun d hd=>?_⟩
   rcases mem_append.mp hd with h|h
   ·exact hqs d h
   ·have:d=c:=by simpa using h
    subst this
    exact hc.resolve_right hm
 unfold Ys
 simp only[qSt,yv,xP,Z4,zG,yd,xJ,yE,xK,yM,getElem?_cons_zero,getElem?_cons_succ,yj,Rs.bind_ok,UY hsz,hl,Zy,xh,m3,g1,wn,hmn,Fl.of_ok,set_cons_succ,set_cons_zero,yQ,
  Gq,Th,Tg,UJ,Yj,hsl,htr,if_true,uJ,decide_true,hlo,xZ,V0,g2,GZ,Zq]
 by_cases hz:e2=0
 ·subst hz
  obtain⟨q',s',h1,h2,h3⟩:=key (S6.getD e3.toNat 0) (.inl (J1 _ (by lia)))
  simp only[qSt] at h1
  refine⟨q',(n:Int)+1,s',?_,h2,h3,by lia⟩
  simp only[beq_self_eq_true,if_true,g3,wn,Rs.bind_ok,hix,Fl.of_ok,yQ]
  exact h1
 ·obtain⟨q',s',h1,h2,h3⟩:=key (lo1 x[n]) (WA _ hxn).2
  simp only[qSt] at h1
  refine⟨q',(n:Int)+1,s',?_,h2,h3,by lia⟩
  have hb:(e2==0)=false:=by simpa using hz
  simp only[hb,Bool.false_eq_true,if_false,xE,yQ]
  exact h1
theorem Ug(ns:List Int)(a:Int)(x:List Nat)(most:Int)(h63:ns.length≤63)(h0:0≤a)(ha:a<900000)(hm0:0≤most)(hm1:most<50)(hx0:0<x.length)(hx1:x.length≤100)(hx:∀c∈x,c∈NS) :
  ∃q:List Nat,(q.length:Int)≤most∧(∀c∈q,c∈QS)∧z8 [.scr ns,.int a,.str ⟨x.toArray⟩,.int most]=.ok (.str ⟨q.toArray⟩):=by
 have st:yo 8 [D.scr ns,.int a,.str ⟨x.toArray⟩,.int most]=[some (.val (.scr ns)),some (.val (.int a)),some (.val (.str ⟨x.toArray⟩)),some (.val (.int most)),none,none,none,none]:=rfl
 have dl:=xj ns a (m:=most+1) (by lia)
 have dk:=xi ns a (most+1) h63 h0 (by lia) (by lia)
 generalize hN:yN ns a (most+1)=N at *
 have r1:=Xn (fs:=za (zx zj (za (zc 0) (za (zc 1) (za (eOp zI (zc 3) (eC (.int 1))) zm)))) zm) (τ:=qSt ns a x most [] 0 none none) (j:=N)
  (by simp only[qSt,zG,yd,xJ,xK,yM,yE,getElem?_cons_zero,getElem?_cons_succ,yj,Rs.bind_ok,xh,dk,wn]) (by lia) (by lia)
 obtain⟨τ',l1,q,p,s1,s2,rfl,l2,l3,l4⟩:=Vp (set:=gNm 6) (body:=Ys) (fun (k:Nat)=>D.int (0+k)) (fun k τ=>∃q p s1 s2,τ=qSt ns a x most q p s1 s2∧q.length≤k∧(∀c∈q,c∈QS)∧0≤p) N.toNat (qSt ns a x most [] 0 none none)
  ⟨[],0,none,none,rfl,le_refl _,(fun _ h=>nomatch h),Int.le_refl _⟩ fun k τ hk z_=>by
   obtain⟨q,p,s1,s2,e,h1,h2,h3⟩:=z_
   subst e
   obtain⟨q',p',s',g1,g2,g3,g4⟩:=Xo ns a x most q p k s2 h63 h0 ha (by lia) hx0 hx1 hx (by lia) h2 h3
   exact⟨_,_,Jp,g1,q',p',_,s',rfl,by lia,g3,g4⟩
 refine⟨q,by lia,l3,?_⟩
 have s0:qSt ns a x most [] 0 none none=[some (.val (.scr ns)),some (.val (.int a)),some (.val (.str ⟨x.toArray⟩)),some (.val (.int most)),some (.val (.str "")),some (.val (.int 0)),none,none]:=rfl
 unfold z8 v3
 rw[y0,st,yv,xP,xK,Fl.of_ok,yQ,yv,xP,xK,Fl.of_ok,yQ,yv,X5]
 simp only[set_cons_succ,set_cons_zero]
 rw[← s0,r1,Fl.of_ok]
 unfold Yr
 have l1':yh (gNm 6) Ys ((List.range N.toNat).map fun (k:Nat)=>D.int (0+k)) (qSt ns a x most [] 0 none none)=.nx (qSt ns a x most q p s1 s2):=l1
 unfold Ys at l1'
 rw[l1',yQ]
 simp only[qSt,xQ,yE,getElem?_cons_zero,getElem?_cons_succ,yj,Fl.of_ok,xn]
noncomputable def meetC(c d:Nat):Bool:=c==d||(decide (97≤c∧c≤122)&&up1 c==d)
end Law
set_option Elab.async false
set_option linter.all false
set_option maxHeartbeats 1000000
namespace FD
open PySem PySem.Spec PyProof.Rows L2
section
variable{τ:DS}{fa fb fe fi:FE}{fs:FA}{n:Nat}{i:Int}
theorem Jt:YY n τ=(XF τ[n]?).bind fun ds=>.ok (.int ds.length):=rfl
theorem Gf:xl fe τ=(fe τ).bind GW:=rfl
noncomputable def putAt(n:Nat)(ds:List D)(d:D)(τ:DS):D→Fl
 |.int k=>match ixN ds.length k with
  |some j=>.nx (τ.set n (some (.own (ds.set j d))))
  |none=>.no
 |_=>.no
theorem ZI:W6 n fi fe τ=Fl.of (fe τ) fun d=>Fl.of (XF τ[n]?) fun ds=>Fl.of (fi τ) (putAt n ds d τ):=by
 unfold W6 vK
 cases fe τ <;> rfl
theorem Uj{ds:List D}{d:D}{j:Nat}(h:j<ds.length):putAt n ds d τ (.int j)=.nx (τ.set n (some (.own (ds.set j d)))):=by
 have:ixN ds.length (j:Int)=some j:=by
  unfold ixN
  rw[if_pos (by lia),if_pos (by lia)]
  simp
 simp only[putAt,this]
noncomputable def ixO(ds:List D):D→Rs D
 |.int k=>match atI ds k with
  |some d=>.ok d
  |none=>.no
 |_=>.no
theorem Gr:VF n fi τ=(XF τ[n]?).bind fun ds=>(fi τ).bind (ixO ds):=by
 unfold VF
 show(XF τ[n]?).bind _=_
 cases XF τ[n]? <;> rfl
end
end FD
namespace Law
open PySem PySem.Spec PyProof.Rows L2 FD
noncomputable abbrev tx(x:List Nat):D:=.str ⟨x.toArray⟩
noncomputable abbrev nts(x:List Nat):D:=.lst (x.map fun (k:Nat)=>D.int k)
theorem Yd(x:List Nat):wg ⟨x.toArray⟩=x.map zo:=by simp[wg]
noncomputable abbrev its(x:List Int):D:=.lst (x.map D.int)
theorem vX{set:FG}{fe:FE}{τ:DS}{α β:Type}(f:α→D)(g:β→D)(h:α→β):∀(xs:List α),(∀a∈xs,∃τ1,set (f a) τ=.ok τ1∧fe τ1=.ok (g (h a)))→xq set (fun _=>.ok true) fe τ (xs.map f)=.ok ((xs.map h).map g):=by
 intro l_
 induction l_ with
 |nil=>
  rintro _
  exact rfl
 |cons a xs ih_=>
  rintro hs
  obtain⟨τ1,h1,h2⟩:=hs a (mem_cons_self ..)
  rw[map_cons,xq,h1]
  simp only[h2,ih_ fun b hb=>hs b (mem_cons_of_mem _ hb),Rs.bind_ok,map_cons]
end Law
set_option Elab.async false
set_option linter.all false
set_option maxHeartbeats 1000000
namespace FD
open PySem PySem.Spec PyProof.Rows L2
theorem UU(x:List Nat):(⟨x.toArray⟩:Str).length=x.length:=by show x.toArray.size=_;simp
theorem xV{set:FG}{ft:FT}{fe:FE}{τ:DS}{α:Type}(f g:α→D)(p:α→Bool):∀(xs:List α),(∀a∈xs,∃τ1,set (f a) τ=.ok τ1∧ft τ1=.ok (p a)∧fe τ1=.ok (g a))→xq set ft fe τ (xs.map f)=.ok ((xs.filter p).map g):=by
 intro l_
 induction l_ with
 |nil=>
  rintro _
  exact rfl
 |cons a xs ih_=>
  rintro hs
  obtain⟨τ1,h1,h2,h3⟩:=hs a (mem_cons_self ..)
  have ih:=ih_ fun b hb=>hs b (mem_cons_of_mem _ hb)
  rw[map_cons,xq,h1]
  cases hp:p a
  ·rw[hp] at h2
   simp only[h2,ih,List.filter_cons,hp,Bool.false_eq_true,if_false]
  ·rw[hp] at h2
   simp only[h2,h3,ih,List.filter_cons,hp,if_true,Rs.bind_ok,map_cons]
theorem Xy(x:List Nat)(h:∀c∈x,c<128):Txt.lower (⟨x.toArray⟩:Str)=⟨(x.map lo1).toArray⟩:=by
 rw[lower_ascii (x:=⟨x.toArray⟩) (by intro d hd;exact h d (by simpa using hd))]
 simp
end FD
namespace Law
open PySem PySem.Spec PyProof.Rows L2 FD
noncomputable def low(x:List Nat):List Nat:=x.map lo1
theorem f3:∀a∈QS,∀c∈NS,meetC a c=true→lo1 c=lo1 a:=by decide
theorem f6:∀c∈QS,c<128∧lo1 c<128:=by decide
theorem GE(x:List Nat)(hl:x.length≤1000)(h:∀c∈x,c<128):loD (tx x) []=.ok (tx (low x)):=by
 simp only[loD]
 rw[if_pos (by rw[UU];lia),Xy x h]
 rfl
end Law
set_option Elab.async false
set_option linter.all false
set_option maxHeartbeats 1000000
namespace FD
open PySem PySem.Spec PyProof.Rows L2
noncomputable def negI:D→Rs D
 |.int i=>.ok (.int (-i))
 |_=>.no
theorem Gp{fa:FE}{τ:DS}:XI fa τ=(fa τ).bind negI:=by
 unfold XI
 show(fa τ).bind _=_
 cases fa τ with
 |ok d=>cases d <;> rfl
 |_=>rfl
end FD
namespace Law
open PySem PySem.Spec PyProof.Rows L2 FD
end Law
set_option Elab.async false
set_option linter.all false
set_option maxHeartbeats 1000000
namespace FD
open PySem PySem.Spec PyProof.Rows L2
end FD
namespace Law
open PySem PySem.Spec PyProof.Rows L2 FD
theorem size2:∀a b:D,([a,b]:List D).length≤sizeLine:=fun a b=>by rw[z0];exact Nat.le_of_ble_eq_true rfl
theorem size1:∀a:D,([a]:List D).length≤sizeLine:=fun a=>by rw[z0];exact Nat.le_of_ble_eq_true rfl
theorem tup2{fa fb:FE}{τ:DS}{a b:D}(h1:fa τ=.ok a)(h2:fb τ=.ok b):ur (za fa (za fb zm)) τ=.ok (.tup [a,b]):=by
 rw[Go,zG,h1,Rs.bind_ok,zG,h2,Rs.bind_ok,yd,Rs.bind_ok,Rs.bind_ok,Rs.bind_ok]
 exact if_pos (size2 a b)
theorem GS{fa:FE}{τ:DS}{a:D}(h1:fa τ=.ok a):vW (za fa zm) τ=.ok (.lst [a]):=by
 rw[WN,zG,h1,Rs.bind_ok,yd,Rs.bind_ok,Rs.bind_ok]
 exact if_pos (size1 a)
theorem JE{f:List D→Rs D}{fa:FE}{τ:DS}{a d:D}(h1:fa τ=.ok a)(h:f [a]=.ok d):zx f (za fa zm) τ=.ok d:=by
 rw[yM,zG,h1,Rs.bind_ok,yd,Rs.bind_ok,Rs.bind_ok,h];rfl
theorem Zp{f:List D→Rs D}{fa fb:FE}{τ:DS}{a b d:D}(h1:fa τ=.ok a)(h2:fb τ=.ok b)(h:f [a,b]=.ok d):zx f (za fa (za fb zm)) τ=.ok d:=by
 rw[yM,zG,h1,Rs.bind_ok,zG,h2,Rs.bind_ok,yd,Rs.bind_ok,Rs.bind_ok,Rs.bind_ok,h];rfl
theorem Y8{f:List D→Rs D}{fa fb fc:FE}{τ:DS}{a b c d:D}(h1:fa τ=.ok a)(h2:fb τ=.ok b)(h3:fc τ=.ok c)(h:f [a,b,c]=.ok d):zx f (za fa (za fb (za fc zm))) τ=.ok d:=by
 rw[yM,zG,h1,Rs.bind_ok,zG,h2,Rs.bind_ok,zG,h3,Rs.bind_ok,yd,Rs.bind_ok,Rs.bind_ok,Rs.bind_ok,Rs.bind_ok,h];rfl
theorem op2{op:D→D→Rs D}{fa fb:FE}{τ:DS}{a b:D}{r:Rs D}(h1:fa τ=.ok a)(h2:fb τ=.ok b)(h:op a b=r):eOp op fa fb τ=r:=by
 rw[xJ,h1,Rs.bind_ok,h2,Rs.bind_ok,h]
theorem zu{n:Nat}{τ:DS}{d:D}(h:τ[n]?=some (some (.val d))):zc n τ=.ok d:=by rw[yE,h];rfl
theorem wQ{k:Nat}{idx:List Nat}{fi:FA}{set:FG}{ft:FT}{fe:FE}{τ:DS}{ds xs:List D}(h1:fi τ=.ok ds)(h2:xq set ft fe (xv k idx τ) ds=.ok xs)(h3:xs.length≤1000):yY k idx fi set ft fe τ=.ok xs:=by
 unfold yY
 rw[h1,Rs.bind_ok,h2]
 exact if_pos (by rw[z0];lia)
theorem wu{fe:FE}{τ:DS}{b:Bool}(h:fe τ=.ok (.bl b)):FD.tB fe τ=.ok b:=by rw[V0,h];rfl
theorem Ud{fa:FE}{τ:DS}{n:Nat}(h:fa τ=.ok (.int (n:Int)))(hn:n≤1000):uo (za fa zm) τ=.ok ((List.range n).map fun (k:Nat)=>D.int (0+k)):=by
 rw[Xn (j:=(n:Int)) (by rw[zG,h,Rs.bind_ok,yd,Rs.bind_ok]) (by lia) (by lia),toNat_natCast];rfl
theorem Gx{g:List D→Rs D}{fa:FE}{τ:DS}{a d:D}(h1:fa τ=.ok a)(h:g [a]=.ok d):wx g (za fa zm) τ=.ok d:=by
 rw[Z4,zG,h1,Rs.bind_ok,yd,Rs.bind_ok,Rs.bind_ok,h]
end Law
set_option Elab.async false
set_option linter.all false
set_option maxHeartbeats 1000000
namespace FD
open PySem PySem.Spec PyProof.Rows L2
end FD
namespace Law
open PySem PySem.Spec PyProof.Rows L2 FD
theorem VB(fc:FA)(g:FT)(fx:FE)(A B C:D)(L:List D)(b:Bool)(d:D)(h1:fc [some (.val A),some (.val B),some (.val C),none]=.ok L)(h2:g [some (.val A),some (.val B),some (.val C),some (.own L)]=.ok b)
  (h3:b=true→fx [some (.val A),some (.val B),some (.val C),some (.own L)]=.ok d∧0<L.length) :
  wU 4 (zJ (Yn 3 fc) (zJ (sIf g (W6 3 (eC (.int 0)) fx) zY) (Yo 3))) [A,B,C]=.ok (.lst (if b=true then L.set 0 d else L)):=by
 have st:yo 4 [A,B,C]=[some (.val A),some (.val B),some (.val C),none]:=rfl
 rw[y0,st]
 cases b with
 |false=>simp only[yv,vB,xZ,vC,vJ,xE,ZI,xK,getElem?_cons_zero,getElem?_cons_succ,set_cons_succ,set_cons_zero,vU,Fl.of_ok,yQ,xn,Bool.false_eq_true,if_false,h1,h2,vB,vC,vJ,vU,Bool.false_eq_true,if_false]
 |true=>
  obtain⟨h3,h4⟩:=h3 rfl
  have hp:=Uj (n:=3) (τ:=[some (.val A),some (.val B),some (.val C),some (.own L)]) (d:=d) (j:=0) h4
  have e0:(((0:Nat):Int))=0:=rfl
  rw[e0] at hp
  simp only[yv,vB,xZ,vC,vJ,xE,ZI,xK,getElem?_cons_zero,getElem?_cons_succ,set_cons_succ,set_cons_zero,vU,Fl.of_ok,yQ,xn,if_true,h1,h2,h3,vB,vC,vJ,vU,ZI,hp]
theorem MT:wt=(zJ (Yn 3 (yY 1 [0,1] (uo (za (zx zj (za (zc 0) (za (zc 1) (za (eOp zI (zc 2) (eC (.int 1))) zm)))) zm)) (gNm 0) (fun _=>.ok true) (zx zR (za (zc 1) (za (eOp zI (eOp zI (zc 2) (eC (.int 1))) (eOp y8 (eC (.int 12)) (zc 0))) zm)))))
  (zJ (sIf (xC (FD.tB (eOp gtD (YY 3) (eC (.int 1)))) (FD.tB (eOp eqD (zx zj (za (zc 0) (za (eOp zI (zc 1) (eC (.int 12))) (za (eC (.int 5)) zm)))) (eC (.int 0))))) (W6 3 (eC (.int 0)) (VF 3 (XI (eC (.int 1))))) zY)
  (Yo 3))):=by unfold wt;rfl
noncomputable def jT(x:List Nat):Prop:=0<x.length∧x.length≤10∧∀c∈x,c∈NS
theorem YF(ns:List Int)(a:Int)(h0:0≤a):jT (xH ns a (jn ns a)):=by
 have d:=xj ns a (m:=10) (by decide)
 have hl:(xH ns a (jn ns a)).length=(1+yN ns a 10).toNat:=by simp[xH,jn]
 refine⟨by rw[hl];lia,by rw[hl];lia,fun c hc=>?_⟩
 obtain⟨k,_,rfl⟩:=mem_map.mp hc
 exact Vn ns a k (by lia)
theorem and_b{f g:FT}{τ:DS}{b c:Bool}(h1:f τ=.ok b)(h2:b=true→g τ=.ok c):xC f g τ=.ok (b&&c):=by
 rw[Zx,h1,Rs.bind_ok]
 cases b with
 |false=>rfl
 |true=>rw[if_pos rfl,h2 rfl];rfl
theorem UR(ns:List Int)(a most:Int)(h63:ns.length≤63)(h0:0≤a)(ha:a<800000)(hm0:0≤most)(hm1:most<50) :
  ∃X:List (List Nat),z9 [.scr ns,.int a,.int most]=.ok (.lst (X.map tx))∧(X.length:Int)≤most∧∀x∈X,jT x:=by
 have dl:=xj ns a (m:=most+1) (by lia)
 have dk:=xi ns a (most+1) h63 h0 (by lia) (by lia)
 have dk2:=xi ns (a+12) 5 h63 (by lia) (by lia) (by decide)
 generalize hN:yN ns a (most+1)=N at *
 generalize yN ns (a+12) 5=M at *
 have cf:=vX (set:=gNm 0) (fe:=(zx zR (za (zc 1) (za (eOp zI (eOp zI (zc 2) (eC (.int 1))) (eOp y8 (eC (.int 12)) (zc 0))) zm)))) (τ:=[none,some (.val (.scr ns)),some (.val (.int a))]) (fun (k:Nat)=>D.int (0+k)) tx
  (fun k=>xH ns (a+1+12*(k:Int)) (jn ns (a+1+12*(k:Int)))) (List.range N.toNat) fun k hk=>by
   have hk:=mem_range.mp hk
   refine⟨[some (.val (.int (k:Int))),some (.val (.scr ns)),some (.val (.int a))],by rw[Int.zero_add];rfl,?_⟩
   exact Zp (zu rfl) (op2 (op2 (zu rfl) rfl xh) (op2 rfl (zu rfl) (x8 (by lia))) xh) (Wt ns _ h63 (by lia) (by lia))
 have it:uo (za (zx zj (za (zc 0) (za (zc 1) (za (eOp zI (zc 2) (eC (.int 1))) zm)))) zm) [some (.val (.scr ns)),some (.val (.int a)),some (.val (.int most)),none]=.ok ((List.range N.toNat).map fun (k:Nat)=>D.int (0+k)):=
  Ud (n:=N.toNat) (by rw[Int.toNat_of_nonneg dl.1];exact Y8 (zu rfl) (zu rfl) (op2 (zu rfl) rfl xh) dk) (by lia)
 have ec:=wQ (k:=1) (idx:=[0,1]) it cf (by simp;lia)
 generalize hX0:(List.range N.toNat).map (fun (k:Nat)=>xH ns (a+1+12*(k:Int)) (jn ns (a+1+12*(k:Int))))=X0 at ec cf
 have l0:X0.length=N.toNat:=by rw[← hX0];simp
 have ok0:∀x∈X0,jT x:=fun x hx=>by
  rw[← hX0] at hx
  obtain⟨k,_,rfl⟩:=mem_map.mp hx
  exact YF ns _ (by lia)
 have hg:xC (FD.tB (eOp gtD (YY 3) (eC (.int 1)))) (FD.tB (eOp eqD (zx zj (za (zc 0) (za (eOp zI (zc 1) (eC (.int 12))) (za (eC (.int 5)) zm)))) (eC (.int 0)))) [some (.val (.scr ns)),some (.val (.int a)),some (.val (.int most)),some (.own (X0.map tx))]=.ok (decide (1<(X0.length:Int))&&(M==0)):=
  and_b (wu (op2 (a:=.int (X0.length:Int)) (by rw[Jt];show Rs.ok (D.int ((X0.map tx).length:Int))=_;rw[length_map]) rfl gtD_i)) fun _=>wu (op2 (Y8 (zu rfl) (op2 (zu rfl) rfl xh) rfl dk2) rfl GZ)
 have hne:(decide (1<(X0.length:Int))&&(M==0))=true→0<X0.length:=fun h=>by
  rw[Bool.and_eq_true,decide_eq_true_eq] at h;lia
 have e:=VB _ _ (VF 3 (XI (eC (.int 1)))) (.scr ns) (.int a) (.int most) (X0.map tx) _ (tx (X0.getD (X0.length-1) [])) ec hg fun h=>by
  have hp:=hne h
  refine⟨?_,by rw[length_map];exact hp⟩
  rw[Gr]
  show(Rs.ok (X0.map tx)).bind (fun ds=>(XI (eC (.int 1)) _).bind (ixO ds))=_
  rw[Rs.bind_ok,Gp,xK,Rs.bind_ok]
  show(Rs.ok (D.int (-1))).bind _=_
  rw[Rs.bind_ok]
  unfold ixO
  have:atI (X0.map tx) (-1)=some (tx (X0.getD (X0.length-1) [])):=by
   have e:ixN (X0.map tx).length (-1)=some (X0.length-1):=by
    unfold ixN
    rw[length_map,if_neg (by lia),if_pos (by lia)]
    congr 1;lia
   unfold atI
   rw[e]
   show(X0.map tx)[X0.length-1]?=_
   rw[getElem?_map,getElem?_eq_getElem (by lia)]
   simp[show X0.length-1<X0.length by lia]
  simp only[this]
 unfold z9
 rw[MT,e]
 cases hb:(decide (1<(X0.length:Int))&&(M==0)) with
 |false=>exact⟨X0,by rw[if_neg (by simp)],by lia,ok0⟩
 |true=>
  have hp:=hne hb
  refine⟨X0.set 0 (X0.getD (X0.length-1) []),by rw[if_pos rfl,List.map_set],by rw[length_set];lia,fun x hx=>?_⟩
  rcases List.mem_or_eq_of_mem_set hx with h|h
  ·exact ok0 x h
  ·rw[h]
   have:X0.getD (X0.length-1) []=X0[X0.length-1]'(by lia):=by simp[show X0.length-1<X0.length by lia]
   rw[this]
   exact ok0 _ (getElem_mem _)
theorem YR{α β:Type}(f:α→β)(x:List Int×α):∀l:List (List Int×α),jv (x.1,f x.2) (l.map fun p=>(p.1,f p.2))=(jv x l).map fun p=>(p.1,f p.2):=by
 intro l_
 induction l_ with
 |nil=>
  exact rfl
 |cons y r ih_=>
  rw[map_cons,jv,jv]
  split
  ·rfl
  ·rw[ih_];rfl
theorem j4{α β:Type}(f:α→β):∀l:List (List Int×α),yZ (l.map fun p=>(p.1,f p.2))=(yZ l).map fun p=>(p.1,f p.2):=by
 intro l_
 induction l_ with
 |nil=>
  exact rfl
 |cons x r ih_=>
  rw[map_cons,yZ,yZ,ih_,YR]
noncomputable def u5{α:Type}(key:α→List Int)(rs:List α):List α:=(yZ (rs.map fun r=>(key r,r))).map (·.2)
theorem JS{α:Type}(key:α→List Int)(f:α→D)(rs:List α):(yZ ((rs.map key).zip (rs.map f))).map (·.2)=(u5 key rs).map f:=by
 have e:(rs.map key).zip (rs.map f)=(rs.map fun r=>(key r,r)).map fun p=>(p.1,f p.2):=by
  induction rs with
  |nil=>rfl
  |cons r rs ih=>simp only[map_cons,List.zip_cons_cons,ih]
 rw[e,j4]
 unfold u5
 rw[map_map,map_map];rfl
theorem Xe{α:Type}(key:α→List Int)(rs:List α):(u5 key rs).Perm rs:=by
 have:=(xD (rs.map fun r=>(key r,r))).map (·.2)
 rw[map_map] at this
 have e:rs.map ((fun p:List Int×α=>p.2) ∘ fun r=>(key r,r))=rs:=by
  rw[show((fun p:List Int×α=>p.2) ∘ fun r=>(key r,r))=id from rfl,map_id]
 rw[e] at this
 exact this
theorem u6{α:Type}(key:α→List Int)(rs:List α):∀p∈yZ (rs.map fun r=>(key r,r)),p.1=key p.2:=fun p hp=>by
 have:=(xD (rs.map fun r=>(key r,r))).mem_iff.mp hp
 obtain⟨r,_,rfl⟩:=mem_map.mp this
 rfl
theorem W0{α:Type}(key:α→List Int)(rs:List α)(nd:(rs.map key).Nodup):(u5 key rs).Pairwise fun a b=>lxI (key a) (key b)=true:=by
 have h:=v8 (rs.map fun r=>(key r,r)) (by rw[map_map];exact nd)
 unfold u5
 rw[List.pairwise_map]
 refine h.imp_of_mem fun {a b} ha hb q=>?_
 rw[← u6 key rs a ha,← u6 key rs b hb];exact q
theorem US(X:List (List Nat))(i:Nat)(h:i<X.length):ixD (.lst (X.map tx)) (.int (i:Int))=.ok (tx (X.getD i [])):=by
 refine Q3 (WV ?_)
 rw[getElem?_map,getElem?_eq_getElem h]
 simp[h]
theorem getD_mem{X:List (List Nat)}{i:Nat}(h:i<X.length):X.getD i []∈X:=by
 have:X.getD i []=X[i]:=by simp[h]
 rw[this];exact getElem_mem _
noncomputable def abcN:List Nat:=[97,98,99]
theorem abc_s:("abc" : Str)=⟨abcN.toArray⟩:=by decide +kernel
theorem Ts:jT abcN:=⟨by decide,by decide,by decide⟩
theorem Gw(X:List (List Nat))(h:X.length≤1000):zI (.lst (X.map tx)) (.lst [.str "abc"])=.ok (.lst ((X++[abcN]).map tx)):=by
 show(if _ then Rs.ok (D.lst _) else Rs.no)=_
 rw[if_pos (by rw[z0,length_map,length_singleton];lia),map_append,abc_s]
 rfl
theorem To{f:List D→Rs D}{fa fb fc fd:FE}{τ:DS}{a b c d r:D}(h1:fa τ=.ok a)(h2:fb τ=.ok b)(h3:fc τ=.ok c)(h4:fd τ=.ok d)(h:f [a,b,c,d]=.ok r):zx f (za fa (za fb (za fc (za fd zm)))) τ=.ok r:=by
 rw[yM,zG,h1,Rs.bind_ok,zG,h2,Rs.bind_ok,zG,h3,Rs.bind_ok,zG,h4,Rs.bind_ok,yd,Rs.bind_ok,Rs.bind_ok,Rs.bind_ok,Rs.bind_ok,Rs.bind_ok,h];rfl
theorem yR{f g:FS}{τ τ':DS}(h:f τ=.nx τ'):zJ f g τ=g τ':=by rw[yv,h,yQ]
theorem if_f{g:FT}{a b:FS}{τ:DS}(h:g τ=.ok false):sIf g a b τ=b τ:=by rw[xZ,h,Fl.of_ok,if_neg (by simp)]
theorem M9{g:FT}{a:FS}{τ:DS}(h:g τ=.ok false):sIf g a zY τ=.nx τ:=if_f h
theorem wB{i:Nat}{fe:FE}{τ:DS}{d:D}(h:fe τ=.ok d):yF i fe τ=.nx (τ.set i (some (.val d))):=by rw[xP,h,Fl.of_ok]
theorem Md{fe:FE}{τ:DS}{d:D}(h:fe τ=.ok d):yD fe τ=.rt d:=by rw[xQ,h,Fl.of_ok]
theorem J5{fe:FE}{τ:DS}{d:D}(h:fe τ=.ok d):Yp fe τ=.ro d τ:=by unfold Yp;rw[h,Fl.of_ok]
theorem MM{τ:DS}{i n:Nat}{c:Str}{fs:Fs}(h:τ[i]?=some (some (.obj n c fs))):jQ τ i c=.ok fs:=by unfold jQ;rw[h];exact if_pos rfl
theorem ob_r{τ:DS}{i:Nat}{c:Str}{fs:Fs}(h:τ[i]?=some (some (.obr c fs))):jQ τ i c=.ok fs:=by unfold jQ;rw[h];exact if_pos rfl
theorem MH{τ:DS}{i n:Nat}{c:Str}{fs:Fs}(h:τ[i]?=some (some (.obj n c fs))):vM τ i c=.ok (n,fs):=by unfold vM;rw[h];exact if_pos rfl
theorem GN{τ:DS}{i:Nat}{c f:Str}{fs:Fs}{ds:List D}(h:jQ τ i c=.ok fs)(hf:xM f fs=some (.lst ds)):Vf τ i c f=.ok ds:=by unfold Vf;rw[h,Rs.bind_ok,hf]
theorem MJ{τ:DS}{i n:Nat}{c f:Str}{fs:Fs}{ds:List D}(h:τ[i]?=some (some (.obj n c fs)))(hf:xM f fs=some (.lst ds)):omO τ i c f=.ok (n,fs,ds):=by unfold omO;rw[MH h,Rs.bind_ok];show(match xM f fs with|some (.lst ds)=>Rs.ok (n,fs,ds) | _=>.no)=_;rw[hf]
theorem ro_ok{τ:DS}{i:Nat}{c f:Str}{fs:Fs}{ds:List D}(h:τ[i]?=some (some (.obr c fs)))(hf:xM f fs=some (.lst ds)):W7 τ i c f=.ok ds:=by unfold W7;rw[h];show(if c=c then _ else _)=_;rw[if_pos rfl,hf]
theorem len_A{τ:DS}{i:Nat}{c f:Str}{ds:List D}(h:Vf τ i c f=.ok ds):YZ i c f τ=.ok (.int ds.length):=by unfold YZ;rw[h];rfl
theorem JX{τ:DS}{i n:Nat}{c f:Str}{fs:Fs}{ds:List D}{ff:FA}(he:ff τ=.ok ds)(h:τ[i]?=some (some (.obj n c fs)))(hl:fs.length<1000):J0 i c f ff τ=.nx (τ.set i (some (.obj n c (ua f (.lst ds) fs)))):=by
 unfold J0;rw[he,Fl.of_ok,MH h,Fl.of_ok];exact if_pos hl
theorem GB{τ:DS}{i n:Nat}{c f:Str}{fs:Fs}{ds:List D}{d:D}{fe:FE}(h:τ[i]?=some (some (.obj n c fs)))(hf:xM f fs=some (.lst ds))(he:fe τ=.ok d)(hl:ds.length≤1000):X6 i c f fe τ=.nx (τ.set i (some (.obj n c (ua f (.lst (ds++[d])) fs)))):=by
 unfold X6;rw[MJ h hf,Fl.of_ok,he,Fl.of_ok];exact if_pos (by rw[z0];show ds.length<_;lia)
theorem YI{τ:DS}{i:Nat}{c m:Str}{g:Fs→List D→Rs D}{fa:FA}{o:Fs}{ds:List D}{d:D}(h:jQ τ i c=.ok o)(hm:xM m o=none)(ha:fa τ=.ok ds)(hg:g o ds=.ok d):xr i c m g fa τ=.ok d:=by
 unfold xr;rw[h,Rs.bind_ok,hm,if_pos (by rfl),ha,Rs.bind_ok,hg];rfl
theorem QM{τ:DS}{i n:Nat}{c m:Str}{g:Fs→List D→Rs (D×Fs)}{fa:FA}{o o':Fs}{ds:List D}{d:D}(h:τ[i]?=some (some (.obj n c o)))(hm:xM m o=none)(ha:fa τ=.ok ds)(hg:g o ds=.ok (d,o')):jm i c m g fa τ=.ok (d,τ.set i (some (.obj n c o'))):=by
 unfold jm;rw[MH h,Rs.bind_ok];show(if (xM m o).isNone=true then _ else _)=_;rw[hm,if_pos (by rfl),ha,Rs.bind_ok,hg]
theorem XT{fa:FE}{τ:DS}{a:D}(h:fa τ=.ok a):za fa zm τ=.ok [a]:=by rw[zG,h,Rs.bind_ok,yd,Rs.bind_ok]
theorem Wu{i:Nat}{c:Str}{g:Fs→List D→Rs (D×Fs)}{fa:FA}{τ:DS}{ds:List D}{o:Fs}(ha:fa τ=.ok ds)(hg:g [] ds=.ok (.non,o)):wW i c g fa τ=.nx (τ.set i (some (.obj 0 c o))):=by
 unfold wW;rw[ha,Fl.of_ok,hg]
theorem UK{op:D→D→Rs D}{fo:FOb}{fb:FE}{τ τ':DS}{a b r:D}(h1:fo τ=.ok (a,τ'))(h2:fb τ'=.ok b)(h3:op a b=.ok r):oOp op fo fb τ=.ok (r,τ'):=by
 unfold oOp;rw[h1,Rs.bind_ok];show(fb τ').bind _=_;rw[h2,Rs.bind_ok];show(op a b).bind _=_;rw[h3];rfl
theorem GP{fo:FOb}{τ τ':DS}{b:Bool}(h:fo τ=.ok (.bl b,τ')):oB fo τ=.ok (b,τ'):=by unfold oB;rw[h];rfl
theorem QA{g:FT}{τ:DS}{b:Bool}(h:g τ=.ok b):Vg g τ=.ok (b,τ):=by unfold Vg;rw[h];rfl
theorem ifO_n{g:jV}{a:FS}{τ τ':DS}(h:g τ=.ok (false,τ')):Ua g a zY τ=.nx τ':=by
 unfold Ua;rw[h,Fl.of_ok];show(if false=true then _ else zY τ')=_;rw[if_neg (by simp)];rfl
noncomputable def sg(c:Nat):Str:=⟨#[c]⟩
theorem ZD{c d:Nat}(h:sg c=sg d):c=d:=by
 unfold sg at h
 injection h with h
 simpa using h
noncomputable def uL(ks:SI)(k:Str):SI:=vD ks k ((yg ks k).getD 0+1)
theorem wc(k:Str):yg [] k=none:=rfl
theorem yX(p:Str×Int)(ks:SI)(k:Str):yg (p::ks) k=if p.1=k then some p.2 else yg ks k:=by
 unfold yg
 rw[find?_cons]
 by_cases h:p.1=k
 ·rw[if_pos h];simp[h]
 ·rw[if_neg h];simp[h]
theorem getI_none{ks:SI}{k:Str}:yg ks k=none↔ks.any (fun p=>decide (p.1=k))=false:=by
 induction ks with
 |nil=>simp[wc]
 |cons p ks ih=>
  rw[yX]
  by_cases h:p.1=k
  ·rw[if_pos h];simp[h]
  ·rw[if_neg h,ih];simp[h]
theorem Jn(ks:SI)(q:Str×Int)(k:Str):yg (ks++[q]) k=match yg ks k with
  |some v=>some v
  |none=>if q.1=k then some q.2 else none:=by
 induction ks with
 |nil=>rw[nil_append,yX,wc]
 |cons p ks ih=>
  rw[List.cons_append,yX,yX,ih]
  by_cases h:p.1=k
  ·rw[if_pos h,if_pos h]
  ·rw[if_neg h,if_neg h]
theorem Jm(ks:SI)(k:Str)(v:Int)(k':Str):yg (ks.map fun p=>if p.1=k then (p.1,v) else p) k'=if k'=k then (yg ks k').map fun _=>v else yg ks k':=by
 induction ks with
 |nil=>simp[wc]
 |cons p ks ih=>
  rw[map_cons,yX,yX,ih]
  by_cases h:p.1=k
  ·rw[if_pos h]
   by_cases h2:k'=k
   ·subst h2;simp[h]
   ·have:p.1≠k':=fun z=>h2 (by rw[← z,h])
    simp[this,h2]
  ·rw[if_neg h]
   by_cases h2:k'=k
   ·subst h2;simp[h]
   ·simp[h2]
theorem Jk(ks:SI)(k:Str)(v:Int)(k':Str):yg (vD ks k v) k'=if k'=k then some v else yg ks k':=by
 unfold vD
 by_cases h:ks.any (fun p=>decide (p.1=k))=true
 ·rw[if_pos h,Jm]
  by_cases h2:k'=k
  ·subst h2
   rw[if_pos rfl,if_pos rfl]
   cases q:yg ks k' with
   |none=>rw[getI_none.mp q] at h;cases h
   |some w=>rfl
  ·rw[if_neg h2,if_neg h2]
 ·rw[if_neg h,Jn]
  have hn:yg ks k=none:=getI_none.mpr (Bool.eq_false_iff.mpr h)
  by_cases h2:k'=k
  ·subst h2;rw[hn,if_pos rfl];try simp
  ·rw[if_neg h2]
   cases yg ks k' with
   |none=>simp only;rw[if_neg fun z=>h2 z.symm]
   |some w=>rfl
theorem j6(ks:SI)(k:Str)(v:Int):(vD ks k v).map (·.1)=if ks.any (fun p=>decide (p.1=k))=true then ks.map (·.1) else ks.map (·.1)++[k]:=by
 unfold vD
 by_cases h:ks.any (fun p=>decide (p.1=k))=true
 ·rw[if_pos h,if_pos h,map_map]
  apply map_congr_left
  intro p _
  simp only[Function.comp]
  split <;> rfl
 ·rw[if_neg h,if_neg h,map_append];rfl
theorem J9{ks:SI}(k:Str)(v:Int)(nd:(ks.map (·.1)).Nodup):((vD ks k v).map (·.1)).Nodup:=by
 rw[j6]
 split
 ·exact nd
 ·rename_i h
  rw[List.nodup_append]
  refine⟨nd,by simp,fun a ha b hb=>?_⟩
  obtain rfl:b=k:=by simpa using hb
  rintro rfl
  obtain⟨p,hp,e⟩:=mem_map.mp ha
  exact h (any_eq_true.mpr ⟨p,hp,by simpa using e⟩)
theorem Yt{ks:SI}{k:Str}{v:Int}{x:Str}(h:x∈(vD ks k v).map (·.1)):x∈ks.map (·.1)∨x=k:=by
 rw[j6] at h
 split at h
 ·exact .inl h
 ·simpa using h
noncomputable def ctF(ks:SI)(x:List Nat):SI:=x.foldl (fun ks c=>uL ks (sg c)) ks
noncomputable def ct(x:List Nat):SI:=ctF [] x
theorem WT(x:List Nat):∀(ks:SI) (c:Nat),(yg (ctF ks x) (sg c)).getD 0=(yg ks (sg c)).getD 0+(x.count c:Nat):=by
 induction x with
 |nil=>intro ks c;simp[ctF]
 |cons d x ih=>
  intro ks c
  show(yg (ctF (uL ks (sg d)) x) (sg c)).getD 0=_
  rw[ih,uL,Jk]
  by_cases h:c=d
  ·subst h
   rw[if_pos rfl,List.count_cons_self]
   simp only[Option.getD_some]
   lia
  ·rw[if_neg (fun z=>h (ZD z)),List.count_cons_of_ne (fun z=>h z.symm)]
theorem XM(x:List Nat)(c:Nat):(yg (ct x) (sg c)).getD 0=(x.count c:Nat):=by
 have:=WT x [] c
 rw[wc] at this
 simpa[ct] using this
theorem Jz(x:List Nat):∀(ks:SI),(ks.map (·.1)).Nodup→((ctF ks x).map (·.1)).Nodup:=by
 induction x with
 |nil=>intro ks h;exact h
 |cons d x ih=>intro ks h;exact ih _ (J9 _ _ h)
theorem ct_nd(x:List Nat):((ct x).map (·.1)).Nodup:=Jz x [] (by simp)
theorem WS(x:List Nat):∀(ks:SI),(ctF ks x).length≤ks.length+x.length:=by
 induction x with
 |nil=>intro ks;simp[ctF]
 |cons d x ih=>
  intro ks
  have h1:=ih (uL ks (sg d))
  have h2:=u8 ks (sg d) ((yg ks (sg d)).getD 0+1)
  show(ctF (uL ks (sg d)) x).length≤_
  unfold uL at h1 ⊢
  simp only[length_cons]
  lia
theorem Jy{x:List Nat}{k:Str}(h:k∈(ct x).map (·.1)):∃c∈x,k=sg c:=by
 have go:∀(x:List Nat) (ks:SI),k∈(ctF ks x).map (·.1)→k∈ks.map (·.1)∨∃c∈x,k=sg c:=by
  intro x
  induction x with
  |nil=>intro ks h;exact .inl h
  |cons d x ih=>
   intro ks h
   rcases ih _ h with z|⟨c,hc,e⟩
   ·rcases Yt z with z|z
    ·exact .inl z
    ·exact .inr ⟨d,by simp,z⟩
   ·exact .inr ⟨c,by simp[hc],e⟩
 rcases go x [] h with z|z
 ·simp at z
 ·exact z
theorem Jf(x:List Nat):∀(ks:SI) (τ:DS),2<τ.length→ks.length+x.length≤1000→∃τ',xm (wV (zc 2)) 2 (x.map zo) τ ks=some (τ',ctF ks x):=by
 induction x with
 |nil=>intro ks τ _ _;exact⟨τ,rfl⟩
 |cons d x ih=>
  intro ks τ ht hl
  simp only[length_cons] at hl
  have e:wV (zc 2) (τ.set 2 (some (.val (zo d)))) ks=some (τ.set 2 (some (.val (zo d))),uL ks (sg d)):=by
   have v:zc 2 (τ.set 2 (some (.val (zo d))))=.ok (.str (sg d)):=zu (by rw[getElem?_set_self ht];rfl)
   unfold wV
   rw[v]
   simp only
   rw[if_pos (by lia)];rfl
  have h2:=u8 ks (sg d) ((yg ks (sg d)).getD 0+1)
  obtain⟨τ',h⟩:=ih (uL ks (sg d)) (τ.set 2 (some (.val (zo d)))) (by rw[length_set];exact ht) (by unfold uL;lia)
  refine⟨τ',?_⟩
  rw[map_cons,xm,e]
  exact h
theorem uu(x:List Nat)(hx:x.length≤1000):zH [tx x]=.ok (zM (ct x)):=by
 have st:yo 3 [tx x]=[some (.val (tx x)),none,none]:=rfl
 have hit:xl (zc 0) [some (.val (tx x)),none,none]=.ok (x.map zo):=by
  show Rs.ok (wg ⟨x.toArray⟩)=_
  rw[Yd]
 obtain⟨τ',h⟩:=Jf x [] [some (.val (tx x)),none,none] (by show 2<3;decide) (by simpa using hx)
 have e:jy (xl (zc 0)) 2 (wV (zc 2)) [some (.val (tx x)),none,none] []=some (τ',ct x):=by
  unfold jy
  rw[hit]
  exact h
 unfold zH wZ
 rw[y0,st]
 unfold JZ
 rw[if_pos ⟨rfl,by show 1<3;decide⟩]
 show uC (match jy (xl (zc 0)) 2 (wV (zc 2)) [some (.val (tx x)),none,none] [] with
  |some p=>.rt (zM p.2)
  |none=>.no)=_
 rw[e];rfl
noncomputable def loC(c:Nat):Nat:=if 65≤c∧c≤90 then c+32 else c
noncomputable def upC(c:Nat):Nat:=if 97≤c∧c≤122 then c-32 else c
theorem MU:∀c,c<128→Txt.lower ⟨#[c]⟩=(⟨#[loC c]⟩:Str):=by decide +kernel
theorem G2:∀c,c<128→Txt.upper ⟨#[c]⟩=(⟨#[upC c]⟩:Str):=by decide +kernel
theorem UX(c:Nat)(h:c<128):loD (zo c) []=.ok (zo (loC c)):=by
 show(if (⟨#[c]⟩:Str).length≤5000000 then Rs.ok (D.str (Txt.lower ⟨#[c]⟩)) else .no)=_
 rw[if_pos (by show 1≤5000000;decide),MU c h];rfl
theorem G3(c:Nat)(h:c<128):upD (zo c) []=.ok (zo (upC c)):=by
 show(if (⟨#[c]⟩:Str).length≤5000000 then Rs.ok (D.str (Txt.upper ⟨#[c]⟩)) else .no)=_
 rw[if_pos (by show 1≤5000000;decide),G2 c h];rfl
theorem Jj(ks:SI)(k:Str):vi (ks.map fun p=>Sum.inr p.1) (ks.map fun p=>D.int p.2) (Sum.inr k)=(yg ks k).map D.int:=by
 induction ks with
 |nil=>rfl
 |cons p ks ih=>
  rw[map_cons,map_cons,vi,yX,ih]
  by_cases h:p.1=k
  ·rw[if_pos (by rw[h]),if_pos h];rfl
  ·rw[if_neg (fun z=>h (by cases z;rfl)),if_neg h]
theorem Z5{fo fe:FE}{τ:DS}{x:List Nat}{c:Nat}(h:fo τ=.ok (zM (ct x)))(h2:fe τ=.ok (zo c)):vn fo fe (eC (.int 0)) τ=.ok (.int (x.count c:Nat)):=by
 unfold vn
 rw[h,Rs.bind_ok]
 show((fe τ).bind fun k=>(eC (.int 0) τ).bind fun z=>match jr k with
  |some k=>.ok ((vi ((ct x).map fun p=>Sum.inr p.1) ((ct x).map fun p=>D.int p.2) k).getD z)
  |none=>.no)=_
 rw[h2,Rs.bind_ok,xK,Rs.bind_ok]
 show Rs.ok ((vi ((ct x).map fun p=>Sum.inr p.1) ((ct x).map fun p=>D.int p.2) (Sum.inr (sg c))).getD (.int 0))=_
 rw[Jj,← XM x c]
 cases yg (ct x) (sg c) <;> rfl
noncomputable def sag(x:List Nat)(c:Nat):Nat:=x.count (loC c)+x.count (upC c)
theorem V9(x:List Nat)(c:Nat)(h:c<128):zF [zM (ct x),zo c]=.ok (.int (sag x c:Nat)):=by
 have st:yo 2 [zM (ct x),zo c]=[some (.val (zM (ct x))),some (.val (zo c))]:=rfl
 have m0:∀{g:D→List D→Rs D} {d:D},g (zo c) []=.ok d→xO "str" g (zc 1) [some (.val (zM (ct x))),some (.val (zo c))]=.ok d:=fun {g d} h=>by
  unfold xO
  rw[zu (d:=zo c) rfl,Rs.bind_ok]
  exact h
 have e1:=Z5 (fo:=zc 0) (τ:=[some (.val (zM (ct x))),some (.val (zo c))]) rfl (m0 (UX c h))
 have e2:=Z5 (fo:=zc 0) (τ:=[some (.val (zM (ct x))),some (.val (zo c))]) rfl (m0 (G3 c h))
 unfold zF xW
 rw[y0,st,xQ,op2 e1 e2 xh]
 rfl
theorem Tj{fo fe:FE}{τ:DS}{x:List Nat}{c:Nat}(hc:c∈x)(h:fo τ=.ok (zM (ct x)))(h2:fe τ=.ok (zo c)):Ju fo fe τ=.ok (.int (x.count c:Nat)):=by
 unfold Ju
 rw[h,Rs.bind_ok]
 show((fe τ).bind fun k=>match jr k with
  |some k=>(match vi ((ct x).map fun p=>Sum.inr p.1) ((ct x).map fun p=>D.int p.2) k with
   |some v=>.ok v
   |none=>.no)
  |none=>.no)=_
 rw[h2,Rs.bind_ok]
 show(match vi ((ct x).map fun p=>Sum.inr p.1) ((ct x).map fun p=>D.int p.2) (Sum.inr (sg c)) with
   |some v=>Rs.ok v
   |none=>.no)=_
 have hg:=XM x c
 have hp:0<x.count c:=List.count_pos_iff.mpr hc
 rw[Jj]
 cases q:yg (ct x) (sg c) with
 |none=>rw[q] at hg;simp at hg;lia
 |some v=>rw[q] at hg;simp only[Option.getD_some] at hg;rw[hg];rfl
noncomputable def Q6(c:Nat):Bool:=decide (c∈List.range' 97 26)
noncomputable def Q7(c:Nat):Bool:=decide (c∈List.range' 48 10)
noncomputable def okS(x q:List Nat)(c:Nat):Bool:=!(!Q6 c&&decide (x.count c<q.count c)) && !(!Q7 c&&decide (sag x c<sag q c))
theorem sm_l:("abcdefghijklmnopqrstuvwxyz" : Str).cps.toList=List.range' 97 26:=by decide +kernel
theorem fg_l:("0123456789" : Str).cps.toList=List.range' 48 10:=by decide +kernel
theorem GQ(c:Nat){fe fx:FE}{x:Str}{τ:DS}(h:fe τ=.ok (zo c))(h2:fx τ=.ok (.str x)):FD.tB (eOp vd fe fx) τ=.ok (!decide (c∈x.cps.toList)):=by
 refine wu (op2 h h2 ?_)
 unfold vd
 simp only[zo]
 rw[Je,v7];rfl
theorem Tr{f g:FT}{τ:DS}(h:f τ=.ok false):xC f g τ=.ok false:=by rw[Zx,h];rfl
theorem Tq{f g:FT}{τ:DS}{b:Bool}(h:f τ=.ok true)(h2:g τ=.ok b):xC f g τ=.ok b:=by rw[Zx,h,Rs.bind_ok,if_pos rfl,h2]
theorem XU{f g:FT}{τ:DS}{a b:Bool}(h1:f τ=.ok a)(h2:g τ=.ok b):xC f g τ=.ok (a&&b):=by
 cases a
 ·rw[Tr h1];rfl
 ·rw[Tq h1 h2];rfl
noncomputable def heB:FS:=(zJ (sIf (xC (FD.tB (eOp vd (zc 2) (eC (.str "abcdefghijklmnopqrstuvwxyz")))) (FD.tB (eOp ltI (vn (zc 0) (zc 2) (eC (.int 0))) (Ju (zc 1) (zc 2))))) (yD (eC (.bl false))) zY)
  (sIf (xC (FD.tB (eOp vd (zc 2) (eC (.str "0123456789")))) (FD.tB (eOp ltI (zx zF (za (zc 0) (za (zc 2) zm))) (zx zF (za (zc 1) (za (zc 2) zm)))))) (yD (eC (.bl false))) zY))
theorem Gi(x q:List Nat)(c:Nat)(hc:c∈q)(h:c<128):heB [some (.val (zM (ct x))),some (.val (zM (ct q))),some (.val (zo c))]=if okS x q c=true then .nx [some (.val (zM (ct x))),some (.val (zM (ct q))),some (.val (zo c))] else .rt (.bl false):=by
 generalize ht:([some (.val (zM (ct x))),some (.val (zM (ct q))),some (.val (zo c))]:DS)=τ
 have v0:zc 0 τ=.ok (zM (ct x)):=by rw[← ht];rfl
 have v1:zc 1 τ=.ok (zM (ct q)):=by rw[← ht];rfl
 have v2:zc 2 τ=.ok (zo c):=by rw[← ht];rfl
 have n1:=GQ c v2 (fx:=eC (.str "abcdefghijklmnopqrstuvwxyz")) rfl
 have n2:=GQ c v2 (fx:=eC (.str "0123456789")) rfl
 rw[sm_l] at n1;rw[fg_l] at n2
 have t1:=XU n1 (wu (op2 (Z5 v0 v2) (Tj hc v1 v2) Wy))
 have t2:=XU n2 (wu (op2 (Zp v0 v2 (V9 x c h)) (Zp v1 v2 (V9 q c h)) Wy))
 have d1:decide (((x.count c:Nat):Int)<((q.count c:Nat):Int))=decide (x.count c<q.count c):=by rw[Bool.eq_iff_iff];simp
 have d2:decide (((sag x c:Nat):Int)<((sag q c:Nat):Int))=decide (sag x c<sag q c):=by rw[Bool.eq_iff_iff];simp
 rw[d1] at t1;rw[d2] at t2
 unfold heB okS Q6 Q7
 rw[yv,xZ,t1,Fl.of_ok]
 cases (!decide (c∈List.range' 97 26)&&decide (x.count c<q.count c)) with
 |true=>rfl
 |false=>
  rw[if_neg (by simp),xE,yQ,xZ,t2,Fl.of_ok]
  cases (!decide (c∈List.range' 48 10)&&decide (sag x c<sag q c)) with
  |true=>rfl
  |false=>rfl
noncomputable def kl(q:List Nat):List Nat:=(ct q).map fun p=>p.1.cps.toList.headD 0
theorem YN(q:List Nat):(ct q).map (·.1)=(kl q).map sg:=by
 unfold kl
 rw[map_map]
 apply map_congr_left
 intro p hp
 obtain⟨c,_,e⟩:=Jy (mem_map.mpr ⟨p,hp,rfl⟩)
 simp only[Function.comp]
 rw[e];rfl
theorem kl_mem{q:List Nat}{c:Nat}:c∈kl q↔c∈q:=by
 constructor
 ·intro h
  have:sg c∈(ct q).map (·.1):=by rw[YN];exact mem_map.mpr ⟨c,h,rfl⟩
  obtain⟨d,hd,e⟩:=Jy this
  rw[ZD e];exact hd
 ·intro h
  have hp:0<q.count c:=List.count_pos_iff.mpr h
  have hg:=XM q c
  have:sg c∈(ct q).map (·.1):=by
   cases z:yg (ct q) (sg c) with
   |none=>rw[z] at hg;simp at hg;lia
   |some v=>
    unfold yg at z
    cases y:(ct q).find? fun p=>decide (p.1=sg c) with
    |none=>rw[y] at z;cases z
    |some p=>
     have h1:=List.mem_of_find?_eq_some y
     have h2:=List.find?_some y
     exact mem_map.mpr ⟨p,h1,by simpa using h2⟩
  rw[YN] at this
  obtain⟨d,hd,e⟩:=mem_map.mp this
  rw[← ZD e];exact hd
theorem WL(x q:List Nat):∀(cs:List Nat) (s2:Option Sl),(∀c∈cs,c∈q∧c<128)→∃s2',yh (gNm 2) heB (cs.map zo) [some (.val (zM (ct x))),some (.val (zM (ct q))),s2]=if cs.all (okS x q)=true then .nx [some (.val (zM (ct x))),some (.val (zM (ct q))),s2'] else .rt (.bl false):=by
 intro l_
 induction l_ with
 |nil=>
  rintro s2 _
  exact⟨s2,rfl⟩
 |cons c cs ih_=>
  rintro s2 h
  obtain⟨h1,h2⟩:=h c (mem_cons_self ..)
  obtain⟨s2',ih⟩:=ih_ (some (.val (zo c))) fun d hd=>h d (mem_cons_of_mem _ hd)
  have hb:=Gi x q c h1 h2
  have hset:gNm 2 (zo c) [some (.val (zM (ct x))),some (.val (zM (ct q))),s2]=.ok [some (.val (zM (ct x))),some (.val (zM (ct q))),some (.val (zo c))]:=rfl
  refine⟨s2',?_⟩
  rw[map_cons,yh,hset,Fl.of_ok,List.all_cons]
  cases z:okS x q c with
  |false=>
   rw[z] at hb
   simp only[Bool.false_eq_true,if_false] at hb
   simp only[hb]
   rfl
  |true=>
   rw[z] at hb
   simp only[if_true] at hb
   simp only[hb,ih,Bool.true_and]
theorem VE(x q:List Nat)(hq:∀c∈q,c<128):yz [zM (ct x),zM (ct q)]=.ok (.bl (q.all (okS x q))):=by
 have st:yo 3 [zM (ct x),zM (ct q)]=[some (.val (zM (ct x))),some (.val (zM (ct q))),none]:=rfl
 have hi:jw (zc 1) [some (.val (zM (ct x))),some (.val (zM (ct q))),none]=.ok ((kl q).map zo):=by
  unfold jw
  rw[zu (d:=zM (ct q)) rfl,Rs.bind_ok]
  show Rs.ok ((((ct q).map fun p=>(Sum.inr p.1:Key))).map XJ)=_
  have e:(((ct q).map fun p=>(Sum.inr p.1:Key))).map XJ=((ct q).map (·.1)).map D.str:=by rw[map_map,map_map];rfl
  rw[e,YN,map_map];rfl
 obtain⟨s2,hl⟩:=WL x q (kl q) none fun c hc=>⟨kl_mem.mp hc,hq c (kl_mem.mp hc)⟩
 have ea:(kl q).all (okS x q)=q.all (okS x q):=by
  rw[Bool.eq_iff_iff,all_eq_true,all_eq_true]
  exact⟨fun h c hc=>h c (kl_mem.mpr hc),fun h c hc=>h c (kl_mem.mp hc)⟩
 rw[ea] at hl
 have eB:vZ=zJ (x6 (jw (zc 1)) (gNm 2) heB) (yD (eC (.bl true))):=rfl
 have sF:∀{fi:FA} {set:FG} {fb:FS} {τ:DS},x6 fi set fb τ=Fl.of (fi τ) fun ds=>yh set fb ds τ:=rfl
 unfold yz
 rw[eB,y0,st,yv,sF,hi,Fl.of_ok,hl]
 cases q.all (okS x q) <;> rfl
theorem Ma(c:Nat):Q6 c=true↔97≤c∧c≤122:=by
 unfold Q6
 rw[decide_eq_true_eq,List.mem_range'_1];lia
noncomputable def SV(X:List (List Nat)):Fs:=[("counts", .lst (X.map fun x=>zM (ct x)))]
theorem Yk(X:List (List Nat))(hl:X.length≤1000)(hX:∀x∈X,x.length≤1000):zD [] [.lst (X.map tx)]=.ok (.non,SV X):=by
 have st:xY (.obj 1 "Sieve" []) 0 2 [.lst (X.map tx)]=[some (.obj 1 "Sieve" []),some (.val (.lst (X.map tx)))]:=rfl
 have cm:=vX (set:=gNm 0) (fe:=zx zH (za (zc 0) zm)) (τ:=[none]) tx (fun x=>zM (ct x)) id X fun x hx=>⟨[some (.val (tx x))],rfl,JE (zu rfl) (uu x (hX x hx))⟩
 have hit:xl (zc 1) [some (.obj 1 "Sieve" []),some (.val (.lst (X.map tx)))]=.ok (X.map tx):=rfl
 have ec:=wQ (k:=1) (idx:=[]) (τ:=[some (.obj 1 "Sieve" []),some (.val (.lst (X.map tx)))]) hit cm (by simp;lia)
 rw[map_id] at ec
 unfold zD Yq wf
 rw[st,JX (fs:=[]) ec rfl (by decide)]
 rfl
theorem JY(X:List (List Nat))(x:List Nat)(hl:X.length≤1000)(hx:x.length≤1000):ym (SV X) [tx x]=.ok (.int (X.length:Int),SV (X++[x])):=by
 have st:xY (.obj 1 "Sieve" (SV X)) 0 2 [tx x]=[some (.obj 1 "Sieve" (SV X)),some (.val (tx x))]:=rfl
 have hp:ua "counts" (.lst ((X.map fun x=>zM (ct x))++[zM (ct x)])) (SV X)=SV (X++[x]):=by
  unfold SV
  rw[ua,if_pos rfl,map_append];rfl
 have hf:xM "counts" (SV (X++[x]))=some (.lst ((X++[x]).map fun x=>zM (ct x))):=rfl
 have hr:eOp v6 (YZ 0 "Sieve" "counts") (eC (.int 1)) [some (.obj 1 "Sieve" (SV (X++[x]))),some (.val (tx x))]=.ok (.int (X.length:Int)):=by
  rw[op2 (len_A (GN (MM rfl) hf)) rfl Zy]
  simp
 unfold ym Yq uH
 rw[st,yR (GB (ds:=X.map fun x=>zM (ct x)) (d:=zM (ct x)) rfl rfl (JE (zu rfl) (uu x hx)) (by simpa using hl)),hp]
 show flM 0 "Sieve" (Yp _ [some (.obj 1 "Sieve" (SV (X++[x]))),some (.val (tx x))])=_
 rw[J5 hr]
 rfl
theorem jB(f:List Nat→D):∀(X:List (List Nat)) (j:Nat),yc j (X.map f)=(List.range' j X.length).map fun k=>D.tup [.int (k:Nat),f (X.getD (k-j) [])]:=by
 intro l_
 induction l_ with
 |nil=>
  rintro j
  exact rfl
 |cons x X ih_=>
  rintro j
  rw[map_cons,yc,ih_ (j+1),length_cons,List.range'_succ,map_cons]
  congr 1
  ·simp
  ·apply map_congr_left
   intro k hk
   rw[List.mem_range'_1] at hk
   have:k-j=(k-(j+1))+1:=by lia
   rw[this];rfl
noncomputable def wY(X:List (List Nat))(q:List Nat):List Nat:=(List.range X.length).filter fun k=>q.all (okS (X.getD k []) q)
theorem QY(X:List (List Nat))(q:List Nat)(hl:X.length≤1000)(hq:q.length≤1000)(sq:∀c∈q,c<128):ya (SV X) [tx q]=.ok (.lst ((wY X q).map fun (k:Nat)=>D.int k)):=by
 have st:xY (.obr "Sieve" (SV X)) 0 3 [tx q]=[some (.obr "Sieve" (SV X)),some (.val (tx q)),none]:=rfl
 have e1:zx zH (za (zc 1) zm) [some (.obr "Sieve" (SV X)),some (.val (tx q)),none]=.ok (zM (ct q)):=JE (zu rfl) (uu q hq)
 have hit:Gd 0 "Sieve" "counts" [some (.obr "Sieve" (SV X)),some (.val (tx q)),some (.val (zM (ct q)))]=.ok ((List.range X.length).map fun k=>D.tup [.int (k:Nat),zM (ct (X.getD k []))]):=by
  unfold Gd
  rw[GN (ds:=X.map fun x=>zM (ct x)) (ob_r rfl) rfl,Rs.bind_ok,jB (fun x=>zM (ct x)) X 0,← List.range_eq_range']
  rfl
 have cf:=xV (set:=gPr 0 1) (ft:=u4 (zx yz (za (zc 1) (za (zc 2) zm)))) (fe:=zc 0) (τ:=[none,none,some (.val (zM (ct q)))]) (fun k=>D.tup [.int (k:Nat),zM (ct (X.getD k []))]) (fun (k:Nat)=>D.int k) (fun k=>q.all (okS (X.getD k []) q)) (List.range X.length) fun k _=>⟨[some (.val (.int (k:Nat))),some (.val (zM (ct (X.getD k [])))),some (.val (zM (ct q)))],rfl,by
  rw[Zw,Zp (zu rfl) (zu rfl) (VE (X.getD k []) q sq)];rfl,rfl⟩
 have hle:(wY X q).length≤X.length:=by
  unfold wY
  have:=List.length_filter_le (fun k=>q.all (okS (X.getD k []) q)) (List.range X.length)
  simpa using this
 have ec:=wQ (k:=2) (idx:=[2]) (τ:=[some (.obr "Sieve" (SV X)),some (.val (tx q)),some (.val (zM (ct q)))]) hit cf (by rw[length_map];unfold wY at hle;lia)
 unfold ya Xm v5
 rw[st,yR (wB e1)]
 show uC (yD _ [some (.obr "Sieve" (SV X)),some (.val (tx q)),some (.val (zM (ct q)))])=_
 rw[Md (d:=.lst ((wY X q).map fun (k:Nat)=>D.int k)) (by simp only[ec,Rs.bind_ok];rfl)]
 rfl
theorem Vx(r:Nat)(x:List Nat):∀(ks:SI) (τ:DS),r<τ.length→ks.length+x.length≤1000→∃τ',τ'.length=τ.length∧xm (wV (zc r)) r (x.map zo) τ ks=some (τ',ctF ks x):=by
 induction x with
 |nil=>intro ks τ _ _;exact⟨τ,rfl,rfl⟩
 |cons d x ih=>
  intro ks τ ht hl
  simp only[length_cons] at hl
  have e:wV (zc r) (τ.set r (some (.val (zo d)))) ks=some (τ.set r (some (.val (zo d))),uL ks (sg d)):=by
   have v:zc r (τ.set r (some (.val (zo d))))=.ok (.str (sg d)):=zu (by rw[getElem?_set_self ht];rfl)
   unfold wV
   rw[v]
   simp only
   rw[if_pos (by lia)];rfl
  have h2:=u8 ks (sg d) ((yg ks (sg d)).getD 0+1)
  obtain⟨τ',hl',h⟩:=ih (uL ks (sg d)) (τ.set r (some (.val (zo d)))) (by rw[length_set];exact ht) (by unfold uL;lia)
  refine⟨τ',by rw[hl',length_set],?_⟩
  rw[map_cons,xm,e]
  exact h
theorem MX(x:List Nat):(kl x).length≤x.length:=by
 have:=WS x []
 unfold kl
 rw[length_map]
 simpa[ct] using this
noncomputable def xw(ks:SI)(X:List (List Nat)):SI:=X.foldl (fun ks x=>ctF ks (kl x)) ks
theorem Ge{fe:FE}{τ:DS}{x:List Nat}(h:fe τ=.ok (zM (ct x))):jw fe τ=.ok ((kl x).map zo):=by
 unfold jw
 rw[h,Rs.bind_ok]
 show Rs.ok ((((ct x).map fun p=>(Sum.inr p.1:Key))).map XJ)=_
 have e:(((ct x).map fun p=>(Sum.inr p.1:Key))).map XJ=((ct x).map (·.1)).map D.str:=by rw[map_map,map_map];rfl
 rw[e,YN,map_map];rfl
theorem Zm:∀(X:List (List Nat)) (ks:SI) (τ:DS),τ.length=4→(∀x∈X,x.length≤10)→ks.length+10*X.length≤900→∃τ',xm (jy (jw (zc 2)) 3 (wV (zc 3))) 2 (X.map fun x=>zM (ct x)) τ ks=some (τ',xw ks X)∧(xw ks X).length≤ks.length+10*X.length:=by
 intro l_
 induction l_ with
 |nil=>
  rintro ks τ _ _ _
  exact⟨τ,rfl,by simp[xw]⟩
 |cons x X ih_=>
  rintro ks τ ht hX hl
  simp only[length_cons] at hl
  have hx:=hX x (mem_cons_self ..)
  have hk:=MX x
  obtain⟨τ1,l1,h1⟩:=Vx 3 (kl x) ks (τ.set 2 (some (.val (zM (ct x))))) (by rw[length_set,ht];decide) (by lia)
  have e:jy (jw (zc 2)) 3 (wV (zc 3)) (τ.set 2 (some (.val (zM (ct x))))) ks=some (τ1,ctF ks (kl x)):=by
   unfold jy
   rw[Ge (x:=x) (zu (by rw[getElem?_set_self (by rw[ht];decide)]))]
   exact h1
  have hc:=WS (kl x) ks
  obtain⟨τ',h2,h3⟩:=ih_ (ctF ks (kl x)) τ1 (by rw[l1,length_set,ht]) (fun y hy=>hX y (mem_cons_of_mem _ hy)) (by lia)
  refine⟨τ',?_,?_⟩
  ·rw[map_cons,xm,e];exact h2
  ·show(xw (ctF ks (kl x)) X).length≤_
   simp only[length_cons];lia
theorem ZC:∀(X:List (List Nat)) (ks:SI),(ks.map (·.1)).Nodup→((xw ks X).map (·.1)).Nodup:=by
 intro l_
 induction l_ with
 |nil=>
  rintro ks h
  exact h
 |cons x X ih_=>
  rintro ks h
  exact ih_ _ (Jz (kl x) ks h)
theorem Yl:∀(X:List (List Nat)) (ks:SI) {k:Str},k∈(xw ks X).map (·.1)→k∈ks.map (·.1)∨∃x∈X,∃c∈x,k=sg c:=by
 intro l_
 induction l_ with
 |nil=>
  rintro ks k h
  exact .inl h
 |cons x X ih_=>
  rintro ks k h
  have go:∀(l:List Nat) (ks:SI),k∈(ctF ks l).map (·.1)→k∈ks.map (·.1)∨∃c∈l,k=sg c:=fun l=>by
   induction l with
   |nil=>intro ks h;exact .inl h
   |cons d l ih=>
    intro ks h
    rcases ih _ h with z|⟨c,hc,e⟩
    ·rcases Yt z with z|z
     ·exact .inl z
     ·exact .inr ⟨d,by simp,z⟩
    ·exact .inr ⟨c,by simp[hc],e⟩
  rcases ih_ _ h with z|⟨y,hy,c,hc,e⟩
  ·rcases go _ _ z with z|⟨c,hc,e⟩
   ·exact .inl z
   ·exact .inr ⟨x,by simp,c,kl_mem.mp hc,e⟩
  ·exact .inr ⟨y,by simp[hy],c,hc,e⟩
theorem je:∀(ps:SI),(∀p∈ps,∃c,p.1=sg c∧c<128)→plainDs (ps.map y4)=true∧PyData.canLayAll0 (toPys (ps.map y4))=true∧PyData.depthAll (toPys (ps.map y4))≤1∧PyData.eqvAll (toPys (ps.map y4)) (toPys (ps.map y4))=true:=by
 intro l_
 induction l_ with
 |nil=>
  rintro _
  exact⟨rfl,rfl,by decide,by simp[toPys,PyData.eqvAll]⟩
 |cons p ps ih_=>
  rintro h
  obtain⟨a,b,c,d⟩:=ih_ fun q hq=>h q (mem_cons_of_mem _ hq)
  obtain⟨k,hk,hl⟩:=h p (mem_cons_self ..)
  have h2:PyData.strOk p.1=true:=by rw[hk];simp[PyData.strOk,sg];lia
  refine⟨by simp[plainDs,yw,y4,a],by simp[toPys,yn,y4,PyData.canLayAll0,PyData.canLay0,h2,b],?_,by simp[toPys,yn,y4,PyData.eqvAll,PyData.eqv,d]⟩
  simp only[map_cons,toPys,y4,yn,PyData.depthAll,PyData.depth]
  lia
theorem uf:∀(l:List Nat),plainDs (l.map fun (k:Nat)=>D.int k)=true∧PyData.canLayAll0 (toPys (l.map fun (k:Nat)=>D.int k))=true∧PyData.depthAll (toPys (l.map fun (k:Nat)=>D.int k))=0∧PyData.eqvAll (toPys (l.map fun (k:Nat)=>D.int k)) (toPys (l.map fun (k:Nat)=>D.int k))=true:=by
 intro l_
 induction l_ with
 |nil=>
  exact⟨rfl,rfl,rfl,by simp[toPys,PyData.eqvAll]⟩
 |cons a r ih_=>
  obtain⟨h1,h2,h3,h4⟩:=ih_
  exact⟨by simp[plainDs,yw,h1],by simp[toPys,yn,PyData.canLayAll0,PyData.canLay0,h2],by simp[toPys,yn,PyData.depthAll,PyData.depth,h3],by simp[toPys,yn,PyData.eqvAll,PyData.eqv,h4]⟩
theorem MO(l:List Nat):okD (nts l)=true:=by
 obtain⟨a,b,c,_⟩:=uf l
 simp[okD,yw,yn,PyData.canLay0,PyData.depth,a,b,c]
theorem MP(l:List Nat):neD (nts l) (nts l)=.ok (.bl false):=by
 obtain⟨_,_,_,d⟩:=uf l
 have ok:=MO l
 unfold nts at ok ⊢
 simp only[neD,ok,and_self,if_true,xN,yn,PyData.eqv,d,Bool.not_true]
theorem QE(i:Int):okD (.int i)=true:=by simp[okD,yw,yn,PyData.canLay0,PyData.depth]
theorem UL:∀c∈NS,c<128:=by decide +kernel
theorem qs_lt:∀c∈QS,c<128:=by decide +kernel
section
variable(ns:List Int)(X:List (List Nat))(q:List Nat)
variable{ns X q}{a4 a5 a6 a7:Option Sl}
end
theorem WU(c:Nat):∀l:List Nat,cnt c l=(l.count c:Nat):=by
 intro l_
 induction l_ with
 |nil=>
  exact rfl
 |cons n r ih_=>
  rw[cnt_cons,ih_]
  by_cases h:n=c
  ·subst h;rw[if_pos rfl,List.count_cons_self];lia
  ·rw[if_neg h,List.count_cons_of_ne h];lia
theorem u3(x:List Nat)(c:Nat):xL (tx x) [zo c]=.ok (.int (x.count c:Nat)):=by
 show Rs.ok (D.int (Txt.count ⟨x.toArray⟩ ⟨#[c]⟩))=_
 have e:Txt.count ⟨x.toArray⟩ ⟨#[c]⟩=cnt c x:=count_is ⟨x.toArray⟩ c
 rw[e,WU]
theorem lo1_C:∀c,c<128→lo1 c=loC c:=by decide +kernel
theorem GT(x:List Nat)(h:∀c∈x,c<128):low x=x.map loC:=by
 show x.map lo1=_
 exact map_congr_left fun c hc=>lo1_C c (h c hc)
theorem Ze(x:List Nat)(c:Nat):(x.map loC).count (loC c)=if (65≤c∧c≤90)∨(97≤c∧c≤122) then sag x c else x.count c:=by
 induction x with
 |nil=>simp[sag]
 |cons d x ih=>
  rw[map_cons,count_cons,ih]
  unfold sag
  rw[count_cons,count_cons,count_cons]
  simp only[beq_iff_eq]
  unfold loC upC
  repeat' split
  all_goals lia
noncomputable def okL(x q:List Nat)(c:Nat):Bool:=!decide ((x.map loC).count (loC c)<(q.map loC).count (loC c)) && !(!decide (c=loC c)&&decide (x.count c<q.count c))
theorem Td(c:Nat):Q7 c=true↔48≤c∧c≤57:=by
 unfold Q7
 rw[decide_eq_true_eq,List.mem_range'_1];lia
theorem okS_L(x q:List Nat)(c:Nat):okS x q c=okL x q c:=by
 unfold okS okL
 rw[Ze,Ze]
 have h1:=Ma c
 have h2:=Td c
 rw[Bool.eq_iff_iff]
 simp only[Bool.and_eq_true,Bool.not_eq_true',Bool.and_eq_false_iff,decide_eq_false_iff_not,Bool.not_eq_false',decide_eq_true_eq]
 have e:c=loC c↔¬ (65≤c∧c≤90):=by unfold loC;split <;> lia
 rw[h1,h2,e]
 have s0:¬ ((65≤c∧c≤90)∨(97≤c∧c≤122))→∀y:List Nat,sag y c=2*y.count c:=fun h y=>by
  unfold sag
  rw[show loC c=c from if_neg (by lia),show upC c=c from if_neg (by lia)];lia
 by_cases hl:(65≤c∧c≤90)∨(97≤c∧c≤122)
 ·rw[if_pos hl,if_pos hl]
  lia
 ·rw[if_neg hl,if_neg hl,s0 hl x,s0 hl q]
  lia
noncomputable def ilB:FS:=(zJ (sIf (FD.tB (eOp ltI (eMt "str" xL (xO "str" loD (zc 1)) (za (xO "str" loD (zc 2)) zm)) (eMt "str" xL (xO "str" loD (zc 0)) (za (xO "str" loD (zc 2)) zm)))) (yD (eC (.bl false))) zY)
  (sIf (xC (FD.tB (eOp neD (zc 2) (xO "str" loD (zc 2)))) (FD.tB (eOp ltI (eMt "str" xL (zc 1) (za (zc 2) zm)) (eMt "str" xL (zc 0) (za (zc 2) zm))))) (yD (eC (.bl false))) zY))
theorem Xu{g:D→List D→Rs D}{fe:FE}{τ:DS}{d e:D}(h:fe τ=.ok d)(h2:g d []=.ok e)(hd:uJ "str" d=true:=by rfl):xO "str" g fe τ=.ok e:=by
 unfold xO
 rw[h,Rs.bind_ok,if_pos hd,h2]
theorem jo{g:D→List D→Rs D}{fe fa:FE}{τ:DS}{d a e:D}(h:fe τ=.ok d)(ha:fa τ=.ok a)(hd:uJ "str" d=true)(h2:g d [a]=.ok e):eMt "str" g fe (za fa zm) τ=.ok e:=by
 unfold eMt
 rw[h,Rs.bind_ok,if_pos hd,XT ha,Rs.bind_ok,h2]
theorem sg_ne(c d:Nat)(h:c<128)(h2:d<128):neD (zo c) (zo d)=.ok (.bl (!decide (c=d))):=by
 have o1:okD (zo c)=true:=by simp[zo,okD,yw,yn,PyData.canLay0,PyData.depth,PyData.strOk];lia
 have o2:okD (zo d)=true:=by simp[zo,okD,yw,yn,PyData.canLay0,PyData.depth,PyData.strOk];lia
 simp only[neD,zo]
 congr 2
 rw[Bool.eq_iff_iff]
 simp
theorem Gc(x q:List Nat)(c:Nat)(hx:x.length≤1000)(hq:q.length≤1000)(sx:∀c∈x,c<128)(sq:∀c∈q,c<128)(h:c<128):ilB [some (.val (tx q)),some (.val (tx x)),some (.val (zo c))]=if okL x q c=true then .nx [some (.val (tx q)),some (.val (tx x)),some (.val (zo c))] else .rt (.bl false):=by
 generalize ht:([some (.val (tx q)),some (.val (tx x)),some (.val (zo c))]:DS)=τ
 have v0:zc 0 τ=.ok (tx q):=by rw[← ht];rfl
 have v1:zc 1 τ=.ok (tx x):=by rw[← ht];rfl
 have v2:zc 2 τ=.ok (zo c):=by rw[← ht];rfl
 have l0:=Xu (g:=loD) v0 (GE q hq sq)
 have l1:=Xu (g:=loD) v1 (GE x hx sx)
 have l2:=Xu (g:=loD) v2 (UX c h)
 rw[GT q sq] at l0;rw[GT x sx] at l1
 have lc:loC c<128:=by unfold loC;split <;> lia
 have t1:=wu (op2 (jo (g:=xL) l1 l2 rfl (u3 (x.map loC) (loC c))) (jo (g:=xL) l0 l2 rfl (u3 (q.map loC) (loC c))) Wy)
 have t2:=XU (wu (op2 v2 l2 (sg_ne c (loC c) h lc))) (wu (op2 (jo (g:=xL) v1 v2 rfl (u3 x c)) (jo (g:=xL) v0 v2 rfl (u3 q c)) Wy))
 have d1:∀a b:Nat,decide ((a:Int)<(b:Int))=decide (a<b):=fun a b=>by rw[Bool.eq_iff_iff];simp
 rw[d1] at t1 t2
 unfold ilB okL
 rw[yv,xZ,t1,Fl.of_ok]
 cases decide ((x.map loC).count (loC c)<(q.map loC).count (loC c)) with
 |true=>rfl
 |false=>
  rw[if_neg (by simp),xE,yQ,xZ,t2,Fl.of_ok]
  cases (!decide (c=loC c)&&decide (x.count c<q.count c)) with
  |true=>rfl
  |false=>rfl
theorem WI(x q:List Nat)(hx:x.length≤1000)(hq:q.length≤1000)(sx:∀c∈x,c<128)(sq:∀c∈q,c<128):∀(cs:List Nat) (s2:Option Sl),(∀c∈cs,c<128)→∃s2',yh (gNm 2) ilB (cs.map zo) [some (.val (tx q)),some (.val (tx x)),s2]=if cs.all (okL x q)=true then .nx [some (.val (tx q)),some (.val (tx x)),s2'] else .rt (.bl false):=by
 intro l_
 induction l_ with
 |nil=>
  rintro s2 _
  exact⟨s2,rfl⟩
 |cons c cs ih_=>
  rintro s2 h
  have h2:=h c (mem_cons_self ..)
  obtain⟨s2',ih⟩:=ih_ (some (.val (zo c))) fun d hd=>h d (mem_cons_of_mem _ hd)
  have hb:=Gc x q c hx hq sx sq h2
  have hset:gNm 2 (zo c) [some (.val (tx q)),some (.val (tx x)),s2]=.ok [some (.val (tx q)),some (.val (tx x)),some (.val (zo c))]:=rfl
  refine⟨s2',?_⟩
  rw[map_cons,yh,hset,Fl.of_ok,List.all_cons]
  cases z:okL x q c with
  |false=>
   rw[z] at hb
   simp only[Bool.false_eq_true,if_false] at hb
   simp only[hb]
   rfl
  |true=>
   rw[z] at hb
   simp only[if_true] at hb
   simp only[hb,ih,Bool.true_and]
theorem Vu(x q:List Nat)(hx:x.length≤1000)(hq:q.length≤1000)(sx:∀c∈x,c<128)(sq:∀c∈q,c<128):zQ [tx q,tx x]=.ok (.bl (q.all (okS x q))):=by
 have st:yo 3 [tx q,tx x]=[some (.val (tx q)),some (.val (tx x)),none]:=rfl
 have hi:xl (zc 0) [some (.val (tx q)),some (.val (tx x)),none]=.ok (q.map zo):=by
  show Rs.ok (wg ⟨q.toArray⟩)=_
  rw[Yd]
 obtain⟨s2,hl⟩:=WI x q hx hq sx sq q none sq
 have ea:q.all (okL x q)=q.all (okS x q):=by rw[show okS x q=okL x q from funext (okS_L x q)]
 rw[ea] at hl
 have eB:wK=zJ (x6 (xl (zc 0)) (gNm 2) ilB) (yD (eC (.bl true))):=rfl
 have sF:∀{fi:FA} {set:FG} {fb:FS} {τ:DS},x6 fi set fb τ=Fl.of (fi τ) fun ds=>yh set fb ds τ:=rfl
 unfold zQ
 rw[eB,y0,st,yv,sF,hi,Fl.of_ok,hl]
 cases q.all (okS x q) <;> rfl
theorem j1:∀X:List (List Nat),xX (X.map tx)=some (X.map fun x=>(⟨x.toArray⟩:Str)):=by
 intro l_
 induction l_ with
 |nil=>
  exact rfl
 |cons x X ih_=>
  rw[map_cons,map_cons]
  show(xX (X.map tx)).map _=_
  rw[ih_];rfl
theorem join_nil:∀ys:List Str,(Txt.join "" ys).cps.toList=(ys.map fun y=>y.cps.toList).flatten
 |[]=>rfl
 |[y]=>by
  have:Txt.join "" [y]=y:=by unfold Txt.join;first|rfl | (rw[StrLaws.glued_eq_join];rfl) | simp[glued]
  rw[this];simp
 |y::z::r=>by
  have e0:("" : Str).cps.toList=[]:=by decide +kernel
  have ih:=join_nil (z::r)
  have:Txt.join "" (y::z::r)=y ++ "" ++ Txt.join "" (z::r):=by unfold Txt.join;rw[StrLaws.glued_eq_join,StrLaws.glued_eq_join];rfl
  rw[this,map_cons,flatten_cons,← ih]
  show((y.cps++("" : Str).cps)++(Txt.join "" (z::r)).cps).toList=_
  simp[e0]
theorem Q1(X:List (List Nat))(hl:X.length≤10)(hX:∀x∈X,x.length≤10):jt (.str "") [.lst (X.map tx)]=.ok (tx X.flatten):=by
 have hs:∀(X:List (List Nat)),(∀x∈X,x.length≤10)→((X.map fun x=>(⟨x.toArray⟩:Str)).map (·.length)).sum≤10*X.length:=fun X=>by
  induction X with
  |nil=>intro _;simp
  |cons x X ih=>
   intro h
   have h1:=ih fun y hy=>h y (mem_cons_of_mem _ hy)
   have h2:=h x (mem_cons_self ..)
   simp only[map_cons,List.sum_cons,length_cons]
   have:(⟨x.toArray⟩:Str).length=x.length:=by simp[Str.length]
   rw[this];lia
 have e0:("" : Str).length=0:=by decide +kernel
 show(match xX (X.map tx) with
  |some ys=>if (ys.map fun (y:Str)=>y.length).sum+ys.length*("" : Str).length≤16777216 then Rs.ok (D.str (Txt.join "" ys)) else .no
  |none=>.no)=_
 rw[j1]
 simp only
 rw[if_pos (by have:=hs X hX;rw[e0];lia)]
 have h:=join_nil (X.map fun x=>(⟨x.toArray⟩:Str))
 generalize Txt.join "" (X.map fun x=>(⟨x.toArray⟩:Str))=z at h
 obtain⟨z⟩:=z
 show Rs.ok (D.str _)=Rs.ok (D.str _)
 congr 3
 have:z.toList=X.flatten:=by
  rw[show z.toList=_ from h,map_map]
  congr 1
  simp[Function.comp_def]
 rw[← this]
noncomputable def csX(X:List (List Nat)):List Nat:=(STW.srtS (STW.fmS (STW.sgs ⟨X.flatten.toArray⟩) X.flatten.length)).map fun s=>s.cps.toList.headD 0
theorem Mb(y:List Nat):STW.sgs ⟨y.toArray⟩=y.map sg:=rfl
theorem fm_mem(y:List Nat)(s:Str):s∈STW.fmS (STW.sgs ⟨y.toArray⟩) y.length↔∃c∈y,s=sg c:=by
 have h:=STW.fmS_mem (STW.sgs ⟨y.toArray⟩) s
 rw[STW.sgs_len,show(⟨y.toArray⟩:Str).cps.size=y.length by simp] at h
 rw[h,Mb,mem_map]
 constructor
 ·rintro⟨c,hc,e⟩;exact⟨c,hc,e.symm⟩
 ·rintro⟨c,hc,e⟩;exact⟨c,hc,e.symm⟩
theorem JA(X:List (List Nat)):STW.srtS (STW.fmS (STW.sgs ⟨X.flatten.toArray⟩) X.flatten.length)=(csX X).map sg:=by
 unfold csX
 rw[map_map]
 conv=>lhs;rw[← map_id (STW.srtS _)]
 apply map_congr_left
 intro s hs
 obtain⟨c,_,e⟩:=(fm_mem _ s).mp ((STW.srtS_perm _).mem_iff.mp hs)
 subst e;rfl
theorem JW(X:List (List Nat))(h:X.flatten.length<64):Xk [tx X.flatten]=.ok ((csX X).map zo):=by
 show(if X.flatten.toArray.size<64 then Rs.ok ((STW.srtS (STW.fmS (STW.sgs ⟨X.flatten.toArray⟩) X.flatten.toArray.size)).map D.str) else .no)=_
 rw[show X.flatten.toArray.size=X.flatten.length by simp,if_pos h,JA,map_map];rfl
theorem GV(x:List Nat):(kl x).Nodup:=by
 have h:=ct_nd x
 rw[YN] at h
 exact List.Pairwise.of_map sg (fun a b h e=>h (by rw[e])) h
theorem U5(x:List Nat)(c:Nat):(kl x).count c=if c∈x then 1 else 0:=by
 by_cases h:c∈x
 ·rw[if_pos h,(GV x).count,if_pos (kl_mem.mpr h)]
 ·rw[if_neg h,(GV x).count,if_neg (fun z=>h (kl_mem.mp z))]
noncomputable def vO(X:List (List Nat))(c:Nat):Nat:=X.countP fun x=>decide (c∈x)
theorem Ym(X:List (List Nat)):∀(ks:SI) (c:Nat),(yg (xw ks X) (sg c)).getD 0=(yg ks (sg c)).getD 0+(vO X c:Nat):=by
 induction X with
 |nil=>intro ks c;simp[xw,vO]
 |cons x X ih=>
  intro ks c
  show(yg (xw (ctF ks (kl x)) X) (sg c)).getD 0=_
  rw[ih,WT,U5]
  unfold vO
  rw[List.countP_cons]
  simp only[decide_eq_true_eq]
  split <;> simp <;> lia
theorem Jl{ks:SI}(nd:(ks.map (·.1)).Nodup){p:Str×Int}(h:p∈ks):yg ks p.1=some p.2:=by
 induction ks with
 |nil=>cases h
 |cons a ks ih=>
  rw[yX]
  rw[map_cons,nodup_cons] at nd
  rcases mem_cons.mp h with rfl|h
  ·rw[if_pos rfl]
  ·rw[if_neg,ih nd.2 h]
   intro z
   exact nd.1 (by rw[z];exact mem_map.mpr ⟨p,h,rfl⟩)
theorem V6{X:List (List Nat)}{x:List Nat}{c:Nat}(hx:x∈X)(hc:c∈x):sg c∈(xw [] X).map (·.1):=by
 have h:=Ym X [] c
 rw[wc] at h
 have:0<vO X c:=List.countP_pos_iff.mpr ⟨x,hx,by simpa using hc⟩
 cases z:yg (xw [] X) (sg c) with
 |none=>rw[z] at h;simp at h;lia
 |some v=>
  unfold yg at z
  cases y:(xw [] X).find? fun p=>decide (p.1=sg c) with
  |none=>rw[y] at z;cases z
  |some p=>
   have h1:=List.mem_of_find?_eq_some y
   have h2:=List.find?_some y
   exact mem_map.mpr ⟨p,h1,by simpa using h2⟩
theorem GR:∀a b:List Nat,Spec.ltCps a b=decide (a<b)
 |[],[]=>by simp[Spec.ltCps]
 |[],_::_=>by simp[Spec.ltCps]
 |_::_,[]=>by simp[Spec.ltCps]
 |x::a,y::b=>by
  show(decide (x<y)||(x==y&&Spec.ltCps a b))=_
  rw[GR a b,Bool.eq_iff_iff]
  simp[List.cons_lt_cons_iff]
theorem Vt(X:List (List Nat)):wG (xw [] X)=.lst ((csX X).map fun c=>.tup [zo c,.int (vO X c:Nat)]):=by
 have e:wG (xw [] X)=.lst ((u5 (fun p=>cpI p.1) (xw [] X)).map y4):=by unfold wG;rw[JS]
 rw[e]
 have nd:=ZC X [] (by simp)
 have ndk:((xw [] X).map fun p=>cpI p.1).Nodup:=by
  have:((xw [] X).map fun p=>cpI p.1)=((xw [] X).map (·.1)).map cpI:=by rw[map_map];rfl
  rw[this]
  exact List.Pairwise.map cpI (fun a b h z=>h (Z6 z)) nd
 have hs:=W0 (fun p:Str×Int=>cpI p.1) (xw [] X) ndk
 have hp:=Xe (fun p:Str×Int=>cpI p.1) (xw [] X)
 generalize u5 (fun p:Str×Int=>cpI p.1) (xw [] X)=ps at hs hp
 have k1:ps.map (·.1)=(csX X).map sg:=by
  rw[← JA]
  refine STW.upS_perm ?_ (STW.srtS_up _) ?_
  ·rw[List.pairwise_map]
   refine hs.imp fun {a b} h=>?_
   show Spec.ltCps b.1.cps.toList a.1.cps.toList=false
   rw[GR,UW]
   exact Zd h
  ·refine List.Perm.trans ?_ (STW.srtS_perm _).symm
   refine(List.perm_ext_iff_of_nodup ((hp.map (·.1)).nodup_iff.mpr nd) (STW.fmT_nodup _ _)).mpr fun s=>?_
   rw[(hp.map (·.1)).mem_iff]
   refine Iff.trans ?_ (fm_mem X.flatten s).symm
   constructor
   ·intro h
    rcases Yl X [] h with z|⟨x,hx,c,hc,e⟩
    ·simp at z
    ·exact⟨c,List.mem_flatten.mpr ⟨x,hx,hc⟩,e⟩
   ·rintro⟨c,hc,rfl⟩
    obtain⟨x,hx,hc⟩:=List.mem_flatten.mp hc
    exact V6 hx hc
 have k2:ps=(csX X).map fun c=>(sg c,((vO X c:Nat):Int)):=by
  have e1:ps=(ps.map (·.1)).map fun s=>(s,(yg (xw [] X) s).getD 0):=by
   rw[map_map]
   conv=>lhs;rw[← map_id ps]
   apply map_congr_left
   intro p h
   simp only[Function.comp,id]
   rw[Jl nd (hp.mem_iff.mp h)];rfl
  rw[e1,k1,map_map]
  apply map_congr_left
  intro c _
  simp only[Function.comp]
  have:=Ym X [] c
  rw[wc] at this
  rw[this];simp
 rw[k2,map_map];rfl
theorem cs_lt{X:List (List Nat)}(hX:∀x∈X,∀c∈x,c<128){c:Nat}(h:c∈csX X):c<128:=by
 have:sg c∈(csX X).map sg:=mem_map.mpr ⟨c,h,rfl⟩
 rw[← JA] at this
 obtain⟨d,hd,e⟩:=(fm_mem _ _).mp ((STW.srtS_perm _).mem_iff.mp this)
 obtain⟨x,hx,hc⟩:=List.mem_flatten.mp hd
 rw[ZD e];exact hX x hx d hc
theorem Tl(X:List (List Nat)):(csX X).length≤X.flatten.length:=by
 have h:(csX X).length=(STW.fmS (STW.sgs ⟨X.flatten.toArray⟩) X.flatten.length).length:=by
  unfold csX
  rw[length_map,(STW.srtS_perm _).length_eq]
 rw[h]
 exact STW.fmT_le _ _
theorem U8(X:List (List Nat))(hX:∀x∈X,∀c∈x,c<128):neD (wG (xw [] X)) (.lst ((csX X).map fun c=>.tup [zo c,.int (vO X c:Nat)]))=.ok (.bl false):=by
 rw[Vt]
 have e:((csX X).map fun c=>D.tup [zo c,.int (vO X c:Nat)])=((csX X).map fun c=>(sg c,((vO X c:Nat):Int))).map y4:=by rw[map_map];rfl
 rw[e]
 obtain⟨a,b,c,d⟩:=je ((csX X).map fun c=>(sg c,((vO X c:Nat):Int))) fun p hp=>by
  obtain⟨c,hc,rfl⟩:=mem_map.mp hp
  exact⟨c,rfl,cs_lt hX hc⟩
 generalize ((csX X).map fun c=>(sg c,((vO X c:Nat):Int))).map y4=L at a b c d
 have ok:okD (.lst L)=true:=by
  simp only[okD,yw,yn,PyData.canLay0,PyData.depth,a,b,Bool.true_and,Bool.and_true,decide_eq_true_eq]
  first|lia | (simp;lia) | exact⟨trivial,by lia⟩
 simp only[neD,ok,and_self,if_true,xN,yn,PyData.eqv,d,Bool.not_true]
theorem W3(X:List (List Nat))(hl:X.length≤6)(hX:∀x∈X,x.length≤10):yf (SV X) []=.ok (wG (xw [] X)):=by
 have st:xY (.obr "Sieve" (SV X)) 0 4 []=[some (.obr "Sieve" (SV X)),none,none,none]:=rfl
 obtain⟨τ',h1,h2⟩:=Zm X [] [none,none,none,none] rfl hX (by simp;lia)
 unfold yf Xm va
 rw[st]
 unfold ZH
 rw[ro_ok (fs:=SV X) (ds:=X.map fun x=>zM (ct x)) rfl rfl]
 simp only
 rw[if_pos ⟨rfl,show 1<4 by decide,by decide⟩]
 show uC (match xm (jy (jw (zc 2)) 3 (wV (zc 3))) 2 (X.map fun x=>zM (ct x)) [none,none,none,none] [] with
  |some p=>if p.2.length<64∧(p.2.map (·.1)).Nodup then .rt (wG p.2) else .no
  |none=>.no)=_
 rw[h1]
 simp only
 rw[if_pos ⟨by simp at h2;lia,ZC X [] (by simp)⟩]
 rfl
noncomputable def cmE(o e:Nat):FT:=(FD.tB (eOp neD (xr o "Sieve" "left" ya (za (zc 7) zm)) (fun τ=>((yY 2 [7] (iEn (za (zc e) zm)) (gPr 0 1) (u4 (zx zQ (za (zc 2) (za (zc 1) zm)))) (zc 0)) τ).bind fun ds=>.ok (.lst ds))))
theorem G0(o e n:Nat)(Y:List (List Nat))(q:List Nat)(τ:DS)(hl:Y.length≤10)(hY:∀x∈Y,x.length≤1000∧∀c∈x,c<128)(hq:q.length≤1000)(sq:∀c∈q,c<128)
  (h7:τ[7]?=some (some (.val (tx q)))) (he:τ[e]?=some (some (.val (.lst (Y.map tx))))) (ho:τ[o]?=some (some (.obj n "Sieve" (SV Y)))) (ht:xv 2 [7] τ=[none,none,some (.val (tx q))]):cmE o e τ=.ok false:=by
 have l:xr o "Sieve" "left" ya (za (zc 7) zm) τ=.ok (nts (wY Y q)):=YI (o:=SV Y) (MM ho) rfl (XT (zu h7)) (QY Y q (by lia) hq sq)
 have hit:iEn (za (zc e) zm) τ=.ok ((List.range Y.length).map fun k=>D.tup [.int (k:Nat),tx (Y.getD k [])]):=by
  unfold iEn
  rw[XT (zu he),Rs.bind_ok]
  show Rs.ok (yc 0 (Y.map tx))=_
  rw[jB tx Y 0,← List.range_eq_range']
  rfl
 have cf:=xV (set:=gPr 0 1) (ft:=u4 (zx zQ (za (zc 2) (za (zc 1) zm)))) (fe:=zc 0) (τ:=[none,none,some (.val (tx q))]) (fun k=>D.tup [.int (k:Nat),tx (Y.getD k [])]) (fun (k:Nat)=>D.int k) (fun k=>q.all (okS (Y.getD k []) q)) (List.range Y.length) fun k hk=>⟨[some (.val (.int (k:Nat))),some (.val (tx (Y.getD k []))),some (.val (tx q))],rfl,by
  have hm:=hY _ (getD_mem (mem_range.mp hk))
  rw[Zw,Zp (zu rfl) (zu rfl) (Vu (Y.getD k []) q hm.1 hq hm.2 sq)];rfl,rfl⟩
 have hle:(wY Y q).length≤Y.length:=by
  unfold wY
  have:=List.length_filter_le (fun k=>q.all (okS (Y.getD k []) q)) (List.range Y.length)
  simpa using this
 have ec:=wQ (k:=2) (idx:=[7]) (τ:=τ) hit (by rw[ht];exact cf) (by rw[length_map];unfold wY at hle;lia)
 unfold cmE
 exact wu (op2 l (b:=nts (wY Y q)) (by simp only[ec,Rs.bind_ok];rfl) (MP _))
noncomputable def S11(ns:List Int)(X:List (List Nat))(V:Fs)(x:List Nat)(a4 a5 a6 a7 a8:Option Sl):DS:=[some (.val (.scr ns)),some (.val (.lst (X.map tx))),some (.obj 0 "Sieve" V),some (.val (tx x)),a4,a5,a6,a7,a8,none,none]
noncomputable def lpB:FS:=(zJ (yF 7 (zx z8 (za (zc 0) (za (eOp zI (eC (.int 80)) (eOp y8 (eC (.int 20)) (zc 6))) (za (eOp ixD (zc 5) (zx zj (za (zc 0) (za (eOp v6 (eC (.int 79)) (zc 6)) (za (wx wE (za (zc 5) zm)) zm))))) (za (eC (.int 4)) zm))))))
  (zJ (yF 7 (YX (zc 7) (eOp v6 (eC (.int 1)) (eOp y8 (eC (.int 2)) (zx zj (za (zc 0) (za (eOp zI (eC (.int 95)) (eOp y8 (eC (.int 20)) (zc 6))) (za (eC (.int 2)) zm))))))))
  (sIf (cmE 2 4) (yD (eC (.bl false))) zY)))
section
variable{ns:List Int}{X Y:List (List Nat)}{x:List Nat}{a8:Option Sl}
theorem QW(h63:ns.length≤63)(hl:Y.length≤6)(oY:∀x∈Y,jT x)(k:Nat)(hk:k<3)(a7:Option Sl) :
  ∃q:List Nat,lpB (S11 ns X (SV Y) x (some (.val (.lst (Y.map tx)))) (some (.val (.lst ((Y++[abcN]).map tx)))) (some (.val (.int (k:Int)))) a7 a8)=.nx (S11 ns X (SV Y) x (some (.val (.lst (Y.map tx)))) (some (.val (.lst ((Y++[abcN]).map tx)))) (some (.val (.int (k:Int)))) (some (.val (tx q))) a8):=by
 have dl:=xj ns (79-(k:Int)) (m:=((Y++[abcN]).length:Int)) (by rw[length_append,length_singleton];lia)
 have dk:=xi ns (79-(k:Int)) ((Y++[abcN]).length:Int) h63 (by lia) (by lia) (by rw[length_append,length_singleton];lia)
 generalize yN ns (79-(k:Int)) ((Y++[abcN]).length:Int)=M at dl dk
 have hi:M.toNat<(Y++[abcN]).length:=by lia
 have hm':(Y++[abcN]).getD M.toNat []∈Y++[abcN]:=getD_mem hi
 have hn:jT ((Y++[abcN]).getD M.toNat []):=by
  rcases mem_append.mp hm' with z|z
  ·exact oY _ z
  ·have:(Y++[abcN]).getD M.toNat []=abcN:=by simpa using z
   rw[this];exact Ts
 obtain⟨q,q1,q2,q3⟩:=Ug ns (80+20*(k:Int)) ((Y++[abcN]).getD M.toNat []) 4 h63 (by lia) (by lia) (by lia) (by lia) hn.1 (le_trans hn.2.1 (by decide)) hn.2.2
 have ix:=US (Y++[abcN]) M.toNat hi
 rw[Int.toNat_of_nonneg dl.1] at ix
 have sq:∀c∈q,c<128:=fun c hc=>qs_lt c (q2 c hc)
 have mul:∀i:Int,-(18446744073709551616)<i∧i<18446744073709551616→y8 (.int i) (.int (k:Int))=.ok (.int (i*(k:Int))):=fun i h=>x8 (.inl h)
 have e1:(zx z8 (za (zc 0) (za (eOp zI (eC (.int 80)) (eOp y8 (eC (.int 20)) (zc 6))) (za (eOp ixD (zc 5) (zx zj (za (zc 0) (za (eOp v6 (eC (.int 79)) (zc 6)) (za (wx wE (za (zc 5) zm)) zm))))) (za (eC (.int 4)) zm))))) (S11 ns X (SV Y) x (some (.val (.lst (Y.map tx)))) (some (.val (.lst ((Y++[abcN]).map tx)))) (some (.val (.int (k:Int)))) a7 a8)=.ok (tx q):=
  To (zu rfl) (op2 rfl (op2 rfl (zu rfl) (mul 20 (by decide))) xh) (op2 (zu rfl) (Y8 (zu rfl) (op2 rfl (zu rfl) Zy) (Gx (zu rfl) (by rw[vQ,length_map])) dk) ix) rfl q3
 have dl2:=xj ns (95+20*(k:Int)) (m:=2) (by decide)
 have dk2:=xi ns (95+20*(k:Int)) 2 h63 (by lia) (by lia) (by decide)
 generalize yN ns (95+20*(k:Int)) 2=J at dl2 dk2
 obtain⟨q',lq',sq',hq'⟩:∃q':List Nat,q'.length≤1000∧(∀c∈q',c<128)∧(YX (zc 7) (eOp v6 (eC (.int 1)) (eOp y8 (eC (.int 2)) (zx zj (za (zc 0) (za (eOp zI (eC (.int 95)) (eOp y8 (eC (.int 20)) (zc 6))) (za (eC (.int 2)) zm))))))) (S11 ns X (SV Y) x (some (.val (.lst (Y.map tx)))) (some (.val (.lst ((Y++[abcN]).map tx)))) (some (.val (.int (k:Int)))) (some (.val (tx q))) a8)=.ok (tx q'):=by
  have ej:(eOp v6 (eC (.int 1)) (eOp y8 (eC (.int 2)) (zx zj (za (zc 0) (za (eOp zI (eC (.int 95)) (eOp y8 (eC (.int 20)) (zc 6))) (za (eC (.int 2)) zm)))))) (S11 ns X (SV Y) x (some (.val (.lst (Y.map tx)))) (some (.val (.lst ((Y++[abcN]).map tx)))) (some (.val (.int (k:Int)))) (some (.val (tx q))) a8)=.ok (.int (1-2*J)):=
   op2 rfl (op2 rfl (Y8 (zu rfl) (op2 rfl (op2 rfl (zu rfl) (mul 20 (by decide))) xh) rfl dk2) (x8 (.inl (by decide)))) Zy
  have hz:(⟨q.toArray⟩:Str).length≤sizeLine:=by rw[z0,UU];lia
  have hs:∀K:Int,X2 (tx q) (.int K)=if K=1 then Rs.ok (tx q) else if K = -1 then Rs.ok (D.str ⟨q.toArray.toList.reverse.toArray⟩) else .no:=fun K=>by
   show(if (⟨q.toArray⟩:Str).length≤sizeLine then _ else _)=_
   rw[if_pos hz]
  unfold YX
  by_cases hJ:J=0
  ·subst hJ
   refine⟨q,by lia,sq,?_⟩
   rw[zu (d:=tx q) rfl,Rs.bind_ok,ej,Rs.bind_ok,hs,if_pos (by decide)]
  ·have:J=1:=by lia
   subst this
   refine⟨q.reverse,by simp;lia,fun c hc=>sq c (by simpa using hc),?_⟩
   rw[zu (d:=tx q) rfl,Rs.bind_ok,ej,Rs.bind_ok,hs,if_neg (by decide),if_pos (by decide)]
 refine⟨q',?_⟩
 have c:=G0 2 4 0 Y q' (S11 ns X (SV Y) x (some (.val (.lst (Y.map tx)))) (some (.val (.lst ((Y++[abcN]).map tx)))) (some (.val (.int (k:Int)))) (some (.val (tx q'))) a8) (by lia) (fun y hy=>⟨le_trans (oY y hy).2.1 (by decide),fun c hc=>UL c ((oY y hy).2.2 c hc)⟩) lq' sq' rfl rfl rfl rfl
 unfold lpB
 rw[yR (wB e1)]
 show zJ _ _ (S11 ns X (SV Y) x (some (.val (.lst (Y.map tx)))) (some (.val (.lst ((Y++[abcN]).map tx)))) (some (.val (.int (k:Int)))) (some (.val (tx q))) a8)=_
 rw[yR (wB hq')]
 show sIf _ _ _ (S11 ns X (SV Y) x (some (.val (.lst (Y.map tx)))) (some (.val (.lst ((Y++[abcN]).map tx)))) (some (.val (.int (k:Int)))) (some (.val (tx q'))) a8)=_
 exact M9 c
theorem Wz(h63:ns.length≤63)(hl:Y.length≤6)(oY:∀x∈Y,jT x):∀(ks:List Nat) (a6 a7:Option Sl),(∀k∈ks,k<3)→∃b6 b7,yh (gNm 6) lpB (ks.map fun (k:Nat)=>D.int (k:Int)) (S11 ns X (SV Y) x (some (.val (.lst (Y.map tx)))) (some (.val (.lst ((Y++[abcN]).map tx)))) a6 a7 a8)=.nx (S11 ns X (SV Y) x (some (.val (.lst (Y.map tx)))) (some (.val (.lst ((Y++[abcN]).map tx)))) b6 b7 a8):=by
 intro l_
 induction l_ with
 |nil=>
  rintro a6 a7 _
  exact⟨a6,a7,rfl⟩
 |cons k ks ih_=>
  rintro a6 a7 h
  obtain⟨q,hb⟩:=QW (X:=X) (x:=x) (a8:=a8) h63 hl oY k (h k (mem_cons_self ..)) a7
  obtain⟨b6,b7,ih⟩:=ih_ (some (.val (.int (k:Int)))) (some (.val (tx q))) fun j hj=>h j (mem_cons_of_mem _ hj)
  refine⟨b6,b7,?_⟩
  rw[map_cons,yh]
  have hset:gNm 6 (D.int (k:Int)) (S11 ns X (SV Y) x (some (.val (.lst (Y.map tx)))) (some (.val (.lst ((Y++[abcN]).map tx)))) a6 a7 a8)=.ok (S11 ns X (SV Y) x (some (.val (.lst (Y.map tx)))) (some (.val (.lst ((Y++[abcN]).map tx)))) (some (.val (.int (k:Int)))) a7 a8):=rfl
  rw[hset,Fl.of_ok]
  simp only[hb,ih]
noncomputable def sgE:FE:=(fun τ=>((yY 1 [4] (xl (zc 8)) (gNm 0) (fun _=>.ok true) (ur (za (zc 0) (za (wx wE (za (fun τ=>((yY 1 [0] (xl (zc 1)) (gNm 0) (FD.tB (eOp inD (zc 1) (zc 0))) (zc 0)) τ).bind fun ds=>.ok (.lst ds)) zm)) zm)))) τ).bind fun ds=>.ok (.lst ds))
theorem sg_ok(hl:Y.length≤6)(hf:Y.flatten.length≤1000){a5 a6 a7:Option Sl}{V:Fs}:sgE (S11 ns X V x (some (.val (.lst (Y.map tx)))) a5 a6 a7 (some (.val (.lst ((csX Y).map zo)))))=.ok (.lst ((csX Y).map fun c=>.tup [zo c,.int (vO Y c:Nat)])):=by
 have inner:∀c:Nat,(fun τ=>((yY 1 [0] (xl (zc 1)) (gNm 0) (FD.tB (eOp inD (zc 1) (zc 0))) (zc 0)) τ).bind fun ds=>.ok (.lst ds):FE) [some (.val (zo c)),some (.val (.lst (Y.map tx)))]=.ok (.lst ((Y.filter fun y=>decide (c∈y)).map tx)):=fun c=>by
  have cf:=xV (set:=gNm 0) (ft:=FD.tB (eOp inD (zc 1) (zc 0))) (fe:=zc 0) (τ:=[none,some (.val (zo c))]) tx tx (fun y=>decide (c∈y)) Y fun y hy=>⟨[some (.val (tx y)),some (.val (zo c))],rfl,wu (op2 (zu rfl) (zu rfl) (by
   show inD (.str ⟨#[c]⟩) (.str ⟨y.toArray⟩)=_
   rw[Je,v7])),rfl⟩
  have hfl:=List.length_filter_le (fun y=>decide (c∈y)) Y
  have ec:=wQ (k:=1) (idx:=[0]) (fi:=xl (zc 1)) (τ:=[some (.val (zo c)),some (.val (.lst (Y.map tx)))]) (ds:=Y.map tx) rfl cf (by rw[length_map];lia)
  simp only[ec,Rs.bind_ok]
 have cm:=vX (set:=gNm 0) (fe:=ur (za (zc 0) (za (wx wE (za (fun τ=>((yY 1 [0] (xl (zc 1)) (gNm 0) (FD.tB (eOp inD (zc 1) (zc 0))) (zc 0)) τ).bind fun ds=>.ok (.lst ds)) zm)) zm))) (τ:=[none,some (.val (.lst (Y.map tx)))]) zo (fun c=>D.tup [zo c,.int (vO Y c:Nat)]) id (csX Y) fun c hc=>⟨[some (.val (zo c)),some (.val (.lst (Y.map tx)))],rfl,tup2 (zu rfl) (Gx (inner c) (by
  rw[vQ,length_map]
  unfold vO
  rw[List.countP_eq_length_filter];rfl))⟩
 have hc:=Tl Y
 have ec:=wQ (k:=1) (idx:=[4]) (fi:=xl (zc 8)) (τ:=S11 ns X V x (some (.val (.lst (Y.map tx)))) a5 a6 a7 (some (.val (.lst ((csX Y).map zo))))) (ds:=(csX Y).map zo) rfl cm (by rw[map_id,length_map];lia)
 unfold sgE
 simp only[ec,Rs.bind_ok,map_id]
end
theorem YV:∀Y:List (List Nat),(∀y∈Y,y.length≤10)→Y.flatten.length≤10*Y.length:=by
 intro l_
 induction l_ with
 |nil=>
  rintro _
  simp
 |cons y Y ih_=>
  rintro h
  have h1:=ih_ fun z hz=>h z (mem_cons_of_mem _ hz)
  have h2:=h y (mem_cons_self ..)
  rw[flatten_cons,length_append,length_cons];lia
theorem nmsE:∀(X Y:List (List Nat)),PyData.eqvAll (toPys (X.map tx)) (toPys (Y.map tx))=decide (X=Y)
 |[],[]=>by simp[toPys,PyData.eqvAll]
 |[],_::_=>by simp[toPys,PyData.eqvAll]
 |_::_,[]=>by simp[toPys,PyData.eqvAll]
 |x::X,y::Y=>by
  have ih:=nmsE X Y
  have hx:PyData.eqv (yn (tx x)) (yn (tx y))=decide (x=y):=by
   rw[Bool.eq_iff_iff]
   simp[yn,PyData.eqv]
  rw[map_cons,map_cons,toPys,toPys,PyData.eqvAll,ih,hx,Bool.eq_iff_iff]
  simp
theorem UQ:∀(X:List (List Nat)),(∀x∈X,∀c∈x,c<128)→plainDs (X.map tx)=true∧PyData.canLayAll0 (toPys (X.map tx))=true∧PyData.depthAll (toPys (X.map tx))=0:=by
 intro l_
 induction l_ with
 |nil=>
  rintro _
  exact⟨rfl,rfl,rfl⟩
 |cons x X ih_=>
  rintro h
  obtain⟨a,b,c⟩:=ih_ fun y hy=>h y (mem_cons_of_mem _ hy)
  have h1:=h x (mem_cons_self ..)
  have h2:PyData.strOk ⟨x.toArray⟩=true:=by
   simp only[PyData.strOk,size_toArray]
   first
    | (intro i hi;have:=h1 x[i] (getElem_mem _);simp;lia)
    | (simp;intro c hc;have:=h1 c hc;lia)
  exact⟨by simp[plainDs,yw,tx,a],by simp[toPys,yn,tx,PyData.canLayAll0,PyData.canLay0,h2,b],by simp[toPys,yn,tx,PyData.depthAll,PyData.depth,c]⟩
theorem Ws(X:List (List Nat))(h:∀x∈X,∀c∈x,c<128):okD (.lst (X.map tx))=true:=by
 obtain⟨a,b,c⟩:=UQ X h
 simp[okD,yw,yn,PyData.canLay0,PyData.depth,a,b,c]
theorem MQ(X Y:List (List Nat))(hX:∀x∈X,∀c∈x,c<128)(hY:∀x∈Y,∀c∈x,c<128):eqD (.lst (X.map tx)) (.lst (Y.map tx))=.ok (.bl (decide (X=Y))):=by
 have o1:=Ws X hX
 have o2:=Ws Y hY
 simp only[eqD,o1,o2,and_self,if_true,xN,yn,PyData.eqv,nmsE]
noncomputable def gB:FS:=(zJ (yF 5 (eOp zI (zc 4) (vW (za (eC (.str "abc")) zm))))
  (zJ (x6 (uo (za (eC (.int 3)) zm)) (gNm 6) lpB)
  (zJ (yF 8 (fun τ=>(((za (eMt "str" jt (eC (.str "")) (za (zc 4) zm)) zm) τ).bind Xk).bind fun ds=>.ok (.lst ds)))
  (zJ (sIf (FD.tB (eOp neD (xr 2 "Sieve" "signs" yf zm) sgE)) (yD (eC (.bl false))) zY)
  (Ua (YD (Vg (FD.tB (eOp eqD (zc 4) (zc 1)))) (oB (oOp neD (jm 2 "Sieve" "add" ym (za (zc 3) zm)) (wx wE (za (zc 1) zm))))) (yD (eC (.bl false))) zY)))))
theorem Jb(i:Int):neD (.int i) (.int i)=.ok (.bl false):=by
 have o:okD (.int i)=true:=QE i
 simp only[neD]
 simp
section
variable{ns:List Int}{X Y:List (List Nat)}{x:List Nat}
theorem Jo(h63:ns.length≤63)(lX:X.length≤5)(oX:∀x∈X,jT x)(ox:jT x)(hl:Y.length≤6)(oY:∀x∈Y,jT x)(a5 a6 a7 a8:Option Sl) :
  ∃b5 b6 b7 b8,gB (S11 ns X (SV Y) x (some (.val (.lst (Y.map tx)))) a5 a6 a7 a8)=.nx (S11 ns X (SV (if Y=X then X++[x] else Y)) x (some (.val (.lst (Y.map tx)))) b5 b6 b7 b8):=by
 have hY:∀y∈Y,y.length≤10:=fun y hy=>(oY y hy).2.1
 have sY:∀y∈Y,∀c∈y,c<128:=fun y hy c hc=>UL c ((oY y hy).2.2 c hc)
 have sX:∀y∈X,∀c∈y,c<128:=fun y hy c hc=>UL c ((oX y hy).2.2 c hc)
 have fl:=YV Y hY
 have e5:eOp zI (zc 4) (vW (za (eC (.str "abc")) zm)) (S11 ns X (SV Y) x (some (.val (.lst (Y.map tx)))) a5 a6 a7 a8)=.ok (.lst ((Y++[abcN]).map tx)):=op2 (zu rfl) (GS rfl) (Gw Y (by lia))
 obtain⟨b6,b7,lp⟩:=Wz (X:=X) (x:=x) (a8:=a8) h63 hl oY (List.range 3) a6 a7 (fun k hk=>mem_range.mp hk)
 have hr:uo (za (eC (.int 3)) zm) (S11 ns X (SV Y) x (some (.val (.lst (Y.map tx)))) (some (.val (.lst ((Y++[abcN]).map tx)))) a6 a7 a8)=.ok ((List.range 3).map fun (k:Nat)=>D.int (k:Int)):=by
  rw[Ud (n:=3) rfl (by decide)]
  congr 1
 have sF:∀{fi:FA} {set:FG} {fb:FS} {τ:DS},x6 fi set fb τ=Fl.of (fi τ) fun ds=>yh set fb ds τ:=rfl
 have f6:x6 (uo (za (eC (.int 3)) zm)) (gNm 6) lpB (S11 ns X (SV Y) x (some (.val (.lst (Y.map tx)))) (some (.val (.lst ((Y++[abcN]).map tx)))) a6 a7 a8)=.nx (S11 ns X (SV Y) x (some (.val (.lst (Y.map tx)))) (some (.val (.lst ((Y++[abcN]).map tx)))) b6 b7 a8):=by
  rw[sF,hr,Fl.of_ok];exact lp
 have e8:(fun τ=>(((za (eMt "str" jt (eC (.str "")) (za (zc 4) zm)) zm) τ).bind Xk).bind fun ds=>.ok (.lst ds):FE) (S11 ns X (SV Y) x (some (.val (.lst (Y.map tx)))) (some (.val (.lst ((Y++[abcN]).map tx)))) b6 b7 a8)=.ok (.lst ((csX Y).map zo)):=by
  have j:=jo (g:=jt) (fe:=eC (.str "")) (fa:=zc 4) (τ:=S11 ns X (SV Y) x (some (.val (.lst (Y.map tx)))) (some (.val (.lst ((Y++[abcN]).map tx)))) b6 b7 a8) rfl (zu rfl) rfl (Q1 Y (by lia) hY)
  simp only[XT j,Rs.bind_ok,JW Y (by lia)]
 have s8:FD.tB (eOp neD (xr 2 "Sieve" "signs" yf zm) sgE) (S11 ns X (SV Y) x (some (.val (.lst (Y.map tx)))) (some (.val (.lst ((Y++[abcN]).map tx)))) b6 b7 (some (.val (.lst ((csX Y).map zo)))))=.ok false:=
  wu (op2 (YI (o:=SV Y) (MM rfl) rfl rfl (W3 Y hl hY)) (sg_ok hl (by lia)) (U8 Y sY))
 have q4:=wu (op2 (fa:=zc 4) (fb:=zc 1) (τ:=S11 ns X (SV Y) x (some (.val (.lst (Y.map tx)))) (some (.val (.lst ((Y++[abcN]).map tx)))) b6 b7 (some (.val (.lst ((csX Y).map zo))))) (zu rfl) (zu rfl) (MQ Y X sY sX))
 have last:(YD (Vg (FD.tB (eOp eqD (zc 4) (zc 1)))) (oB (oOp neD (jm 2 "Sieve" "add" ym (za (zc 3) zm)) (wx wE (za (zc 1) zm))))) (S11 ns X (SV Y) x (some (.val (.lst (Y.map tx)))) (some (.val (.lst ((Y++[abcN]).map tx)))) b6 b7 (some (.val (.lst ((csX Y).map zo)))))=.ok (false,S11 ns X (SV (if Y=X then X++[x] else Y)) x (some (.val (.lst (Y.map tx)))) (some (.val (.lst ((Y++[abcN]).map tx)))) b6 b7 (some (.val (.lst ((csX Y).map zo))))):=by
  unfold YD
  rw[QA q4]
  by_cases h:Y=X
  ·subst h
   rw[decide_eq_true rfl,Rs.bind_ok,if_pos rfl]
   have m:=QM (i:=2) (n:=0) (c := "Sieve") (m := "add") (g:=ym) (fa:=za (zc 3) zm) (τ:=S11 ns Y (SV Y) x (some (.val (.lst (Y.map tx)))) (some (.val (.lst ((Y++[abcN]).map tx)))) b6 b7 (some (.val (.lst ((csX Y).map zo))))) rfl rfl (XT (zu rfl)) (JY Y x (by lia) (le_trans ox.2.1 (by decide)))
   first
    | exact GP (UK m (Gx (zu rfl) (by rw[vQ,length_map])) (Jb _))
    | (rw[if_pos rfl];exact GP (UK m (Gx (zu rfl) (by rw[vQ,length_map])) (Jb _)))
  ·rw[decide_eq_false h,if_neg h];rfl
 refine⟨some (.val (.lst ((Y++[abcN]).map tx))),b6,b7,some (.val (.lst ((csX Y).map zo))),?_⟩
 unfold gB
 rw[yR (wB e5)]
 show zJ _ _ (S11 ns X (SV Y) x (some (.val (.lst (Y.map tx)))) (some (.val (.lst ((Y++[abcN]).map tx)))) a6 a7 a8)=_
 rw[yR f6,yR (wB e8)]
 show zJ _ _ (S11 ns X (SV Y) x (some (.val (.lst (Y.map tx)))) (some (.val (.lst ((Y++[abcN]).map tx)))) b6 b7 (some (.val (.lst ((csX Y).map zo)))))=_
 rw[yR (M9 s8),ifO_n last]
end
noncomputable def KN:List (List Nat):=[[65,98,49],[65,65,98,49,49],[97,98],[66,50,97],[97,65,98]]
noncomputable def QN:List (List Nat):=[[65],[65,65],[49],[49,49],[97],[97,97],[65,97],[98,66],[50],[97,98,49],[65,49,98],[97,97,97],[]]
theorem kn_s:([.str "Ab1", .str "AAb11", .str "ab", .str "B2a", .str "aAb"]:List D)=KN.map tx:=by kernel_rfl
theorem qn_s:([.str "A", .str "AA", .str "1", .str "11", .str "a", .str "aa", .str "Aa", .str "bB", .str "2", .str "ab1", .str "A1b", .str "aaa", .str ""]:List D)=QN.map tx:=by kernel_rfl
theorem GU:∀x∈KN,x.length≤1000∧∀c∈x,c<128:=by decide
theorem qn_ok:∀x∈QN,x.length≤1000∧∀c∈x,c<128:=by decide
theorem U7(τ0 τ1 τ2 τ3 τ4 τ5 τ6 τ8:Option Sl):∀(qs:List (List Nat)) (a7:Option Sl),(∀x∈qs,x.length≤1000∧∀c∈x,c<128)→∃b7,yh (gNm 7) (sIf (cmE 10 9) (yD (eC (.bl false))) zY) (qs.map tx) [τ0,τ1,τ2,τ3,τ4,τ5,τ6,a7,τ8,some (.val (.lst (KN.map tx))),some (.obj 0 "Sieve" (SV KN))]=.nx [τ0,τ1,τ2,τ3,τ4,τ5,τ6,b7,τ8,some (.val (.lst (KN.map tx))),some (.obj 0 "Sieve" (SV KN))]:=by
 intro l_
 induction l_ with
 |nil=>
  rintro a7 _
  exact⟨a7,rfl⟩
 |cons q qs ih_=>
  rintro a7 h
  have h1:=h q (mem_cons_self ..)
  obtain⟨b7,ih⟩:=ih_ (some (.val (tx q))) fun j hj=>h j (mem_cons_of_mem _ hj)
  refine⟨b7,?_⟩
  rw[map_cons,yh]
  have hset:gNm 7 (tx q) [τ0,τ1,τ2,τ3,τ4,τ5,τ6,a7,τ8,some (.val (.lst (KN.map tx))),some (.obj 0 "Sieve" (SV KN))]=.ok [τ0,τ1,τ2,τ3,τ4,τ5,τ6,some (.val (tx q)),τ8,some (.val (.lst (KN.map tx))),some (.obj 0 "Sieve" (SV KN))]:=rfl
  have c:=G0 10 9 0 KN q [τ0,τ1,τ2,τ3,τ4,τ5,τ6,some (.val (tx q)),τ8,some (.val (.lst (KN.map tx))),some (.obj 0 "Sieve" (SV KN))] (by decide) GU h1.1 h1.2 rfl rfl rfl rfl
  have hb:=M9 (a:=yD (eC (.bl false))) c
  rw[hset,Fl.of_ok]
  simp only[hb,ih]
theorem main(ns:List Int)(h63:ns.length≤63):Wv [.scr ns]=.ok (.bl true):=by
 have st:yo 11 [D.scr ns]=[some (.val (.scr ns)),none,none,none,none,none,none,none,none,none,none]:=rfl
 obtain⟨X,hN,lX,oX⟩:=UR ns 0 5 h63 (by decide) (by decide) (by decide) (by decide)
 have hl:X.length≤5:=by lia
 have hX:∀x∈X,x.length≤10:=fun x hx=>(oX x hx).2.1
 have hn:=Wt ns 66 h63 (by decide) (by decide)
 have ox:=YF ns 66 (by decide)
 generalize xH ns 66 (jn ns 66)=x at hn ox
 have e1:zx z9 (za (zc 0) (za (eC (.int 0)) (za (eC (.int 5)) zm))) [some (.val (.scr ns)),none,none,none,none,none,none,none,none,none,none]=.ok (.lst (X.map tx)):=Y8 (zu rfl) rfl rfl hN
 have mk1:wW 2 "Sieve" zD (za (zc 1) zm) [some (.val (.scr ns)),some (.val (.lst (X.map tx))),none,none,none,none,none,none,none,none,none]=.nx [some (.val (.scr ns)),some (.val (.lst (X.map tx))),some (.obj 0 "Sieve" (SV X)),none,none,none,none,none,none,none,none]:=Wu (XT (zu rfl)) (Yk X (by lia) fun x hx=>by have:=hX x hx;lia)
 have e3:zx zR (za (zc 0) (za (eC (.int 66)) zm)) [some (.val (.scr ns)),some (.val (.lst (X.map tx))),some (.obj 0 "Sieve" (SV X)),none,none,none,none,none,none,none,none]=.ok (tx x):=Zp (zu rfl) rfl hn
 have hcat:zI (.lst (X.map tx)) (.lst [tx x])=.ok (.lst ((X++[x]).map tx)):=by
  show(if _ then Rs.ok (D.lst _) else Rs.no)=_
  rw[if_pos (by rw[z0,length_map,length_singleton];lia),map_append]
  rfl
 have hit:xl (ur (za (zc 1) (za (eOp zI (zc 1) (vW (za (zc 3) zm))) zm))) (S11 ns X (SV X) x none none none none none)=.ok [.lst (X.map tx),.lst ((X++[x]).map tx)]:=by
  rw[Gf,tup2 (zu rfl) (op2 (zu rfl) (GS (zu rfl)) hcat)];rfl
 obtain⟨b5,b6,b7,b8,g1⟩:=Jo (X:=X) (Y:=X) (x:=x) h63 hl oX ox (by lia) oX none none none none
 rw[if_pos rfl] at g1
 have ne:X++[x]≠X:=fun z=>by have:=congrArg List.length z;simp at this
 obtain⟨c5,c6,c7,c8,g2⟩:=Jo (X:=X) (Y:=X++[x]) (x:=x) h63 hl oX ox (by simp;lia) (fun y hy=>by
  rcases mem_append.mp hy with z|z
  ·exact oX y z
  ·obtain rfl:y=x:=by simpa using z
   exact ox) b5 b6 b7 b8
 rw[if_neg ne] at g2
 have sF:∀{fi:FA} {set:FG} {fb:FS} {τ:DS},x6 fi set fb τ=Fl.of (fi τ) fun ds=>yh set fb ds τ:=rfl
 have lp:yh (gNm 4) gB [.lst (X.map tx),.lst ((X++[x]).map tx)] (S11 ns X (SV X) x none none none none none)=.nx (S11 ns X (SV (X++[x])) x (some (.val (.lst ((X++[x]).map tx)))) c5 c6 c7 c8):=by
  rw[yh]
  show Fl.of (Rs.ok (S11 ns X (SV X) x (some (.val (.lst (X.map tx)))) none none none none)) _=_
  rw[Fl.of_ok]
  simp only[g1]
  rw[yh]
  show Fl.of (Rs.ok (S11 ns X (SV (X++[x])) x (some (.val (.lst ((X++[x]).map tx)))) b5 b6 b7 b8)) _=_
  rw[Fl.of_ok]
  simp only[g2]
  rfl
 have f4:x6 (xl (ur (za (zc 1) (za (eOp zI (zc 1) (vW (za (zc 3) zm))) zm)))) (gNm 4) gB (S11 ns X (SV X) x none none none none none)=.nx (S11 ns X (SV (X++[x])) x (some (.val (.lst ((X++[x]).map tx)))) c5 c6 c7 c8):=by
  rw[sF,hit,Fl.of_ok];exact lp
 have e9:vW (za (eC (.str "Ab1")) (za (eC (.str "AAb11")) (za (eC (.str "ab")) (za (eC (.str "B2a")) (za (eC (.str "aAb")) zm))))) (S11 ns X (SV (X++[x])) x (some (.val (.lst ((X++[x]).map tx)))) c5 c6 c7 c8)=.ok (.lst (KN.map tx)):=by
  rw[← kn_s];rfl
 have mk2:wW 10 "Sieve" zD (za (zc 9) zm) [some (.val (.scr ns)),some (.val (.lst (X.map tx))),some (.obj 0 "Sieve" (SV (X++[x]))),some (.val (tx x)),some (.val (.lst ((X++[x]).map tx))),c5,c6,c7,c8,some (.val (.lst (KN.map tx))),none]=.nx [some (.val (.scr ns)),some (.val (.lst (X.map tx))),some (.obj 0 "Sieve" (SV (X++[x]))),some (.val (tx x)),some (.val (.lst ((X++[x]).map tx))),c5,c6,c7,c8,some (.val (.lst (KN.map tx))),some (.obj 0 "Sieve" (SV KN))]:=Wu (XT (zu rfl)) (Yk KN (by decide) fun x hx=>(GU x hx).1)
 obtain⟨d7,kl⟩:=U7 (some (.val (.scr ns))) (some (.val (.lst (X.map tx)))) (some (.obj 0 "Sieve" (SV (X++[x])))) (some (.val (tx x))) (some (.val (.lst ((X++[x]).map tx)))) c5 c6 c8 QN c7 qn_ok
 have f7:x6 (xl (ur (za (eC (.str "A")) (za (eC (.str "AA")) (za (eC (.str "1")) (za (eC (.str "11")) (za (eC (.str "a")) (za (eC (.str "aa")) (za (eC (.str "Aa")) (za (eC (.str "bB")) (za (eC (.str "2")) (za (eC (.str "ab1")) (za (eC (.str "A1b")) (za (eC (.str "aaa")) (za (eC (.str "")) zm))))))))))))))) (gNm 7) (sIf (cmE 10 9) (yD (eC (.bl false))) zY) [some (.val (.scr ns)),some (.val (.lst (X.map tx))),some (.obj 0 "Sieve" (SV (X++[x]))),some (.val (tx x)),some (.val (.lst ((X++[x]).map tx))),c5,c6,c7,c8,some (.val (.lst (KN.map tx))),some (.obj 0 "Sieve" (SV KN))]=.nx [some (.val (.scr ns)),some (.val (.lst (X.map tx))),some (.obj 0 "Sieve" (SV (X++[x]))),some (.val (tx x)),some (.val (.lst ((X++[x]).map tx))),c5,c6,d7,c8,some (.val (.lst (KN.map tx))),some (.obj 0 "Sieve" (SV KN))]:=by
  rw[sF]
  show Fl.of (Rs.ok _) _=_
  rw[Fl.of_ok,qn_s];exact kl
 have eB:G1=(zJ (yF 1 (zx z9 (za (zc 0) (za (eC (.int 0)) (za (eC (.int 5)) zm)))))
   (zJ (wW 2 "Sieve" zD (za (zc 1) zm))
   (zJ (yF 3 (zx zR (za (zc 0) (za (eC (.int 66)) zm))))
   (zJ (x6 (xl (ur (za (zc 1) (za (eOp zI (zc 1) (vW (za (zc 3) zm))) zm)))) (gNm 4) gB)
   (zJ (yF 9 (vW (za (eC (.str "Ab1")) (za (eC (.str "AAb11")) (za (eC (.str "ab")) (za (eC (.str "B2a")) (za (eC (.str "aAb")) zm)))))))
   (zJ (wW 10 "Sieve" zD (za (zc 9) zm))
   (zJ (x6 (xl (ur (za (eC (.str "A")) (za (eC (.str "AA")) (za (eC (.str "1")) (za (eC (.str "11")) (za (eC (.str "a")) (za (eC (.str "aa")) (za (eC (.str "Aa")) (za (eC (.str "bB")) (za (eC (.str "2")) (za (eC (.str "ab1")) (za (eC (.str "A1b")) (za (eC (.str "aaa")) (za (eC (.str "")) zm))))))))))))))) (gNm 7) (sIf (cmE 10 9) (yD (eC (.bl false))) zY))
   (yD (eC (.bl true)))))))))):=rfl
 unfold Wv
 rw[eB,y0,st,yR (wB e1)]
 simp only[set_cons_succ,set_cons_zero]
 rw[yR mk1,yR (wB e3)]
 simp only[set_cons_succ,set_cons_zero]
 rw[show([some (.val (.scr ns)),some (.val (.lst (X.map tx))),some (.obj 0 "Sieve" (SV X)),some (.val (tx x)),none,none,none,none,none,none,none]:DS)=S11 ns X (SV X) x none none none none none from rfl,yR f4,yR (wB e9)]
 show uC (zJ _ _ [some (.val (.scr ns)),some (.val (.lst (X.map tx))),some (.obj 0 "Sieve" (SV (X++[x]))),some (.val (tx x)),some (.val (.lst ((X++[x]).map tx))),c5,c6,c7,c8,some (.val (.lst (KN.map tx))),none])=_
 rw[yR mk2,yR f7]
 rfl
set_option maxHeartbeats 4000000
noncomputable def top(i:Nat):Stmt:=PySem.Challenge.pw_fewfind_k80_sieves.main.body.getD i (.Pass ⟨0,0,0,0⟩)
section
variable{P:Program}{w:World}{K:Frag}{mg:Str→Option Value}{base:Heap}
noncomputable abbrev yI:Stmt:=top 8
theorem ZF:zL ["_law_script", "_law_k"] ["_law_script", "_law_k"] (zi yI):=⟨rfl,rfl,rfl,by decide +kernel,rfl,by decide +kernel,by decide +kernel⟩
theorem ZW{f:Addr}{fd:FuncData}(A_:yO K mg "_law_cell" yI f fd)(z_len:mg "len" = none):DefOk P w K mg base "_law_cell" 1 2 ["_law_script", "_law_k"] yW:=by
 refine DefOk.mk (k:=0) A_ ZF rfl (fun _ _ _ _ _ _ us hl=>by obtain⟨_,_,rfl⟩:=lnz2 hl;rfl) (fun cdv A outer s H E hr=>?_) fun _ _ _ h=>h
 exact(zq (xF (yi (ZR hr.units) (zb (pv 0)) (uS zp) (y7 _)) (zv (zX (zr yL zn (zb (pv 1))))) yA) (zv (zX (zr zE (ZO WE (zb (pv 0)) (zr wP (zb (pv 1)) (xc uv rfl z_len PySem.boot_len (ze (zb (pv 0)) zp)))) (zr yL zn (zr vL (zb (pv 1)) (xc uv rfl z_len PySem.boot_len (ze (zb (pv 0)) zp))))))))
noncomputable abbrev yu:Stmt:=top 9
theorem sc__law_drawn:zL ["_law_script", "_law_k", "_law_many", "_law_cell_here"] ["_law_script", "_law_k", "_law_many"] (zi yu):=⟨rfl,rfl,rfl,by decide +kernel,rfl,by decide +kernel,by decide +kernel⟩
theorem jO{f:Addr}{fd:FuncData}(A_:yO K mg "_law_drawn" yu f fd)(h__law_cell:DefOk P w K mg base "_law_cell" 1 2 ["_law_script", "_law_k"] yW):DefOk P w K mg base "_law_drawn" 2 3 ["_law_script", "_law_k", "_law_many"] zj:=by
 refine DefOk.mk (k:=1) A_ sc__law_drawn rfl (fun _ _ _ _ _ _ us hl=>by obtain⟨_,_,_,rfl⟩:=lnz3 hl;rfl) (fun cdv A outer s H E hr=>?_) fun _ _ _ h=>h
 exact(zq (zW (i:=3) sc__law_drawn.nd rfl (Or.inl rfl) (zr wP (zr zE (zr yL (zr wP (zN h__law_cell (hr.mono (by decide)) (ze (zb (pv 0)) (ze (zb (pv 1)) zp)) (zh (zh zB))) zn) zn) (zr yL zn (zr zE (zb (pv 1)) zn))) zn)) (zq (zW (i:=3) sc__law_drawn.nd rfl (Or.inl rfl) (zr wP (zr zE (zr yL (zb (pv 3)) (zb (pv 3))) (zr vL (zb (pv 3)) zn)) zn)) (zv (zX (zr wP (zr vL (zr wP (zr zE (zr yL (zb (pv 3)) (zb (pv 3))) (zr vL (zb (pv 3)) zn)) zn) zn) (zb (pv 2)))))))
noncomputable abbrev yG:Stmt:=top 10
theorem sc__law_name:zL ["_law_script", "_law_at", "_law_found", "_law_k"] ["_law_script", "_law_at"] (zi yG):=⟨rfl,rfl,rfl,by decide +kernel,rfl,by decide +kernel,by decide +kernel⟩
theorem ZU{f:Addr}{fd:FuncData}(A_:yO K mg "_law_name" yG f fd)(h__law_drawn:DefOk P w K mg base "_law_drawn" 2 3 ["_law_script", "_law_k", "_law_many"] zj)(z_range:mg "range" = none):DefOk P w K mg base "_law_name" 3 2 ["_law_script", "_law_at"] zR:=by
 refine DefOk.mk (k:=2) A_ sc__law_name rfl (fun _ _ _ _ _ _ us hl=>by obtain⟨_,_,rfl⟩:=lnz2 hl;rfl) (fun cdv A outer s H E hr=>?_) fun _ _ _ h=>h
 exact(zq (zW (i:=2) sc__law_name.nd rfl (Or.inl rfl) xz) (zq (wj PassesOwn.never rfl (wk rfl z_range (ze (zr zE zn (zN h__law_drawn (hr.mono (by decide)) (ze (zb (pv 0)) (ze (zb (pv 1)) (ze zn zp))) (zh (zh (zh zB))))) zp)) (yJ sc__law_name.nd rfl (Or.inl rfl)) (zv (zW (i:=2) sc__law_name.nd rfl (Or.inl rfl) (zr zE (zb (pv 2)) (ZO WE xz (zN h__law_drawn (hr.mono (by decide)) (ze (zb (pv 0)) (ze (zr zE (zr zE (zb (pv 1)) zn) (zb (pv 3))) (ze zn zp))) (zh (zh (zh zB))))))))) (zv (zX (zb (pv 2))))))
noncomputable abbrev yt:Stmt:=top 12
theorem sc__law_names:zL ["_law_script", "_law_at", "_law_most", "_law_found"] ["_law_script", "_law_at", "_law_most"] (zi yt):=⟨rfl,rfl,rfl,by decide +kernel,rfl,by decide +kernel,by decide +kernel⟩
theorem jN{f:Addr}{fd:FuncData}(A_:yO K mg "_law_names" yt f fd)(h__law_drawn:DefOk P w K mg base "_law_drawn" 2 3 ["_law_script", "_law_k", "_law_many"] zj)(h__law_name:DefOk P w K mg base "_law_name" 3 2 ["_law_script", "_law_at"] zR)(z_len:mg "len" = none)(z_range:mg "range" = none):DefOk P w K mg base "_law_names" 4 3 ["_law_script", "_law_at", "_law_most"] z9:=by
 refine DefOk.mk (k:=3) A_ sc__law_names rfl (fun _ _ _ _ _ _ us hl=>by obtain⟨_,_,_,rfl⟩:=lnz3 hl;rfl) (fun cdv A outer s H E hr=>?_) fun _ _ _ h=>h
 exact(zq (Xs (i:=3) sc__law_names.nd rfl rfl rfl (tn:=["_law_k"]) (fr:=["_law_script", "_law_at"]) (idx:=[0,1]) rfl rfl ⟨rfl,rfl,⟨rfl,rfl,trivial⟩⟩ (vx 0) (PDI.h (wk rfl z_range (ze (zN h__law_drawn (hr.mono (by decide)) (ze (zb (pv 0)) (ze (zb (pv 1)) (ze (zr zE (zb (pv 2)) zn) zp))) (zh (zh (zh zB)))) zp))) (fun s H C fp=>(yJ (show List.Nodup (["_law_k", "_law_script", "_law_at"]:List Str) by decide +kernel) rfl (Or.inl rfl))) (fun s H C fp=>jb) (fun s H C fp=>(zN h__law_name (hr.mono (by decide)) (ze (zb (pv 1)) (ze (zr zE (zr zE (zb (pv 2)) zn) (zr yL zn (zb (pv 0)))) zp)) (zh (zh zB))))) (zq (xF (Wj (uQ (yi MB (Uz (pv 3) rfl z_len) zn (y7 _)) (vF (yi (ZR hr.units) (zN h__law_drawn (hr.mono (by decide)) (ze (zb (pv 0)) (ze (zr zE (zb (pv 1)) zn) (ze zn zp))) (zh (zh (zh zB)))) zn (y7 _))))) (zv (Qq (pv 3) zn (Qx (pv 3) (Qw zn)))) yA) (zv (Us (pv 3)))))
noncomputable abbrev ye:Stmt:=top 3
theorem sc_sign_counts:zL ["text", "counts", "sign"] ["text"] (zi ye):=⟨rfl,rfl,rfl,by decide +kernel,rfl,by decide +kernel,by decide +kernel⟩
theorem jk{f:Addr}{fd:FuncData}(A_:yO K mg "sign_counts" ye f fd):DefOk P w K mg base "sign_counts" 1 1 ["text"] zH:=by
 refine DefOk.mk (k:=0) A_ sc_sign_counts rfl (fun _ _ _ _ _ _ us hl=>by obtain⟨_,rfl⟩:=lnz1 hl;rfl) (fun cdv A outer s H E hr=>?_) fun _ _ _ h=>h
 exact(Ur (i:=1) sc_sign_counts.nd rfl (Or.inl rfl) (We (r:=2) PassesOwn.never rfl (wl (zb (pv 0))) sc_sign_counts.nd rfl (Or.inl rfl) (by decide) (wN (Wd (Zl hr) (pv 1) (pv 1) (zb (pv 2)) (zb (pv 2)) ⟨rfl,rfl,rfl,rfl⟩))) (pv 1))
noncomputable abbrev zZ:Stmt:=uW (top 6) 0
theorem vy:zL ["self", "names"] ["self", "names"] (zi zZ):=⟨rfl,rfl,rfl,by decide +kernel,rfl,by decide +kernel,by decide +kernel⟩
theorem vN{C_Sieve:Addr}(A_Sieve:ClsAt K mg "Sieve" C_Sieve)(n_Sieve_counts:NoAttr K C_Sieve "counts")(h_sign_counts:DefOk P w K mg base "sign_counts" 1 1 ["text"] zH){f:Addr}{fd:FuncData}(M_:Mk K C_Sieve f)(D_:Fun K "__init__" "Sieve.__init__" zZ f fd):ClsM P w K mg base "Sieve" 2 1 ["self", "names"] zD:=by
 refine ClsM.mk (k:=1) A_Sieve M_ D_ vy rfl (fun _ _ _ _ _ _ us hl=>by obtain⟨_,_,rfl⟩:=lnz2 hl;rfl) (fun cdv A outer s H E hr=>?_)
 exact(zv (Qs (pv 0) A_Sieve.ns A_Sieve.cls n_Sieve_counts (wb (tn:=["name"]) (fr:=[]) (idx:=[]) rfl rfl trivial (vx 0) (PDI.h (wl (zb (pv 1)))) (fun s H C fp=>(yJ (show List.Nodup (["name"]:List Str) by decide +kernel) rfl (Or.inl rfl))) (fun s H C fp=>jb) (fun s H C fp=>(zN h_sign_counts (hr.mono (by decide)) (ze (zb (pv 0)) zp) (zh zB)))) (by decide +kernel)))
noncomputable abbrev yH:Stmt:=top 11
theorem ZE:zL ["_law_sign"] ["_law_sign"] (zi yH):=⟨rfl,rfl,rfl,by decide +kernel,rfl,by decide +kernel,by decide +kernel⟩
theorem ZV{f:Addr}{fd:FuncData}(A_:yO K mg "_law_mark" yH f fd):DefOk P w K mg base "_law_mark" 1 1 ["_law_sign"] yk:=by
 refine DefOk.mk (k:=0) A_ ZE rfl (fun _ _ _ _ _ _ us hl=>by obtain⟨_,rfl⟩:=lnz1 hl;rfl) (fun cdv A outer s H E hr=>?_) fun _ _ _ h=>h
 exact(zv (zX (Qz (UF (uN hr)) (zb (pv 0)) xz (by with_unfolding_all rfl))))
noncomputable abbrev yr:Stmt:=top 13
theorem sc__law_query:zL ["_law_script", "_law_at", "_law_name_here", "_law_most", "_law_found", "_law_place", "_law_k", "_law_sign"] ["_law_script", "_law_at", "_law_name_here", "_law_most"] (zi yr):=⟨rfl,rfl,rfl,by decide +kernel,rfl,by decide +kernel,by decide +kernel⟩
theorem jM{f:Addr}{fd:FuncData}(A_:yO K mg "_law_query" yr f fd)(h__law_drawn:DefOk P w K mg base "_law_drawn" 2 3 ["_law_script", "_law_k", "_law_many"] zj)(h__law_mark:DefOk P w K mg base "_law_mark" 1 1 ["_law_sign"] yk)(z_range:mg "range" = none)(z_len:mg "len" = none)(z_min:mg "min" = none):DefOk P w K mg base "_law_query" 3 4 ["_law_script", "_law_at", "_law_name_here", "_law_most"] z8:=by
 refine DefOk.mk (k:=2) A_ sc__law_query rfl (fun _ _ _ _ _ _ us hl=>by obtain⟨_,_,_,_,rfl⟩:=lnz4 hl;rfl) (fun cdv A outer s H E hr=>?_) fun _ _ _ h=>h
 exact(zq (zW (i:=4) sc__law_query.nd rfl (Or.inl rfl) xz) (zq (zW (i:=5) sc__law_query.nd rfl (Or.inl rfl) zn) (zq (wj PassesOwn.never rfl (wk rfl z_range (ze (zN h__law_drawn (hr.mono (by decide)) (ze (zb (pv 0)) (ze (zb (pv 1)) (ze (zr zE (zb (pv 3)) zn) zp))) (zh (zh (zh zB)))) zp)) (yJ sc__law_query.nd rfl (Or.inl rfl)) (zq (zW (i:=5) sc__law_query.nd rfl (Or.inl rfl) (xc (Gv rfl) rfl z_min boot_min (ze (zr uT (xc uv rfl z_len PySem.boot_len (ze (zb (pv 2)) zp)) zn) (ze (zr zE (zb (pv 5)) (zN h__law_drawn (hr.mono (by decide)) (ze (zb (pv 0)) (ze (zr zE (zr zE (zb (pv 1)) zn) (zr yL zn (zb (pv 6)))) (ze zn zp))) (zh (zh (zh zB))))) zp)))) (zq (zW (i:=7) sc__law_query.nd rfl (Or.inl rfl) (xb (My (Mx (zb (pv 2)) (Yz (zb (pv 5))) (Yz (zr zE (zb (pv 5)) zn))) (Qv xz)))) (zq (zW (i:=5) sc__law_query.nd rfl (Or.inl rfl) (zr zE (zb (pv 5)) zn)) (zq (xF (yi (ZR hr.units) (zN h__law_drawn (hr.mono (by decide)) (ze (zb (pv 0)) (ze (zr zE (zr zE (zb (pv 1)) zn) (zr yL zn (zb (pv 6)))) (ze zn zp))) (zh (zh (zh zB)))) zn (y7 _)) (zv (zW (i:=7) sc__law_query.nd rfl (Or.inl rfl) (ZO WE xz (zN h__law_drawn (hr.mono (by decide)) (ze (zb (pv 0)) (ze (zr zE (zr zE (zb (pv 1)) zn) (zr yL zn (zb (pv 6)))) (ze zn zp))) (zh (zh (zh zB))))))) yA) (zv (xF (Qp (uR (zN h__law_mark (hr.mono (by decide)) (ze (zb (pv 7)) zp) (zh zB)))) (zv (zW (i:=4) sc__law_query.nd rfl (Or.inl rfl) (zr zE (zb (pv 4)) (zb (pv 7))))) yA))))))) (zv (zX (zb (pv 4)))))))
noncomputable abbrev z5:Stmt:=top 14
theorem sc__law_is_left:zL ["_law_query_here", "_law_name_here", "_law_sign"] ["_law_query_here", "_law_name_here"] (zi z5):=⟨rfl,rfl,rfl,by decide +kernel,rfl,by decide +kernel,by decide +kernel⟩
theorem uI{f:Addr}{fd:FuncData}(A_:yO K mg "_law_is_left" z5 f fd):DefOk P w K mg base "_law_is_left" 1 2 ["_law_query_here", "_law_name_here"] zQ:=by
 refine DefOk.mk (k:=0) A_ sc__law_is_left rfl (fun _ _ _ _ _ _ us hl=>by obtain⟨_,_,rfl⟩:=lnz2 hl;rfl) (fun cdv A outer s H E hr=>?_) fun _ _ _ h=>h
 exact(zq (wj PassesOwn.never rfl (wl (zb (pv 0))) (yJ sc__law_is_left.nd rfl (Or.inl rfl)) (zq (xF (yi ZQ (jd F.plainAttrs_str F.slot_str_count F.type_str_count uU (xb (zb (pv 1))) (ze (xb (zb (pv 2))) zp)) (jd F.plainAttrs_str F.slot_str_count F.type_str_count uU (xb (zb (pv 0))) (ze (xb (zb (pv 2))) zp)) (y7 _)) (zv (zX xG)) yA) (zv (xF (Wj (uQ (yi (ji hr.units) (zb (pv 2)) (xb (zb (pv 2))) (y7 _)) (vF (yi ZQ (jd F.plainAttrs_str F.slot_str_count F.type_str_count uU (zb (pv 1)) (ze (zb (pv 2)) zp)) (jd F.plainAttrs_str F.slot_str_count F.type_str_count uU (zb (pv 0)) (ze (zb (pv 2)) zp)) (y7 _))))) (zv (zX xG)) yA)))) (zv (zX xG)))
noncomputable abbrev yB:Stmt:=uW (top 6) 3
theorem sc_Sieve_signs:zL ["self", "having", "counts", "sign"] ["self"] (zi yB):=⟨rfl,rfl,rfl,by decide +kernel,rfl,by decide +kernel,by decide +kernel⟩
theorem jl{C_Sieve:Addr}(A_Sieve:ClsAt K mg "Sieve" C_Sieve)(n_Sieve_counts:NoAttr K C_Sieve "counts")(z_sorted:mg "sorted" = none){f:Addr}{fd:FuncData}(M_:jU K C_Sieve "signs" f)(D_:Fun K "signs" "Sieve.signs" yB f fd):MetR P w K mg base "Sieve" "signs" 1 0 ["self"] yf:=by
 refine MetR.mk (k:=0) A_Sieve M_ D_ sc_Sieve_signs rfl (fun _ _ _ _ _ _ us hl=>by obtain⟨_,rfl⟩:=lnz1 hl;rfl) (fun cdv A outer s H E hr=>?_)
 exact(Xr (i:=1) (j:=0) (r:=2) sc_Sieve_signs.nd rfl PassesOwn.never rfl (Or.inl rfl) rfl (Or.inl rfl) (by decide) (pv 0) A_Sieve.ns A_Sieve.cls n_Sieve_counts (wN (We (r:=3) PassesOwn.never rfl (Wk (zb (pv 2))) sc_Sieve_signs.nd rfl (Or.inl rfl) (by decide) (wN (Wd (Zl hr) (pv 1) (pv 1) (zb (pv 3)) (zb (pv 3)) ⟨rfl,rfl,rfl,rfl⟩)))) (pv 1) rfl z_sorted (by decide +kernel))
noncomputable abbrev zP:Stmt:=top 4
theorem vb:zL ["counts", "letter"] ["counts", "letter"] (zi zP):=⟨rfl,rfl,rfl,by decide +kernel,rfl,by decide +kernel,by decide +kernel⟩
theorem vc{f:Addr}{fd:FuncData}(A_:yO K mg "small_and_great" zP f fd):DefOk P w K mg base "small_and_great" 1 2 ["counts", "letter"] zF:=by
 refine DefOk.mk (k:=0) A_ vb rfl (fun _ _ _ _ _ _ us hl=>by obtain⟨_,_,rfl⟩:=lnz2 hl;rfl) (fun cdv A outer s H E hr=>?_) fun _ _ _ h=>h
 exact(zv (zX (zr zE (ue (Zl hr) (zb (pv 0)) (xb (zb (pv 1))) zn ⟨rfl,rfl,rfl,rfl⟩) (ue (Zl hr) (zb (pv 0)) (Ve (zb (pv 1))) zn ⟨rfl,rfl,rfl,rfl⟩))))
noncomputable abbrev yq:Stmt:=top 5
theorem sc_has_enough:zL ["counts", "asked", "sign"] ["counts", "asked"] (zi yq):=⟨rfl,rfl,rfl,by decide +kernel,rfl,by decide +kernel,by decide +kernel⟩
theorem jL{f:Addr}{fd:FuncData}(A_:yO K mg "has_enough" yq f fd)(h_small_and_great:DefOk P w K mg base "small_and_great" 1 2 ["counts", "letter"] zF){t_FIGURES:Tok}(g_FIGURES:mg "FIGURES" = some (.str "0123456789" t_FIGURES)){t_SMALL:Tok}(g_SMALL:mg "SMALL" = some (.str "abcdefghijklmnopqrstuvwxyz" t_SMALL)):DefOk P w K mg base "has_enough" 2 2 ["counts", "asked"] yz:=by
 refine DefOk.mk (k:=1) A_ sc_has_enough rfl (fun _ _ _ _ _ _ us hl=>by obtain⟨_,_,rfl⟩:=lnz2 hl;rfl) (fun cdv A outer s H E hr=>?_) fun _ _ _ h=>h
 exact(zq (wj PassesOwn.never rfl (Wk (zb (pv 1))) (yJ sc_has_enough.nd rfl (Or.inl rfl)) (zq (xF (Wj (uQ (yi (Za (uN hr)) (zb (pv 2)) (Wm rfl g_SMALL) (by with_unfolding_all rfl)) (vF (yi ZQ (ue (Zl hr) (zb (pv 0)) (zb (pv 2)) zn ⟨rfl,rfl,rfl,rfl⟩) (Qy (Zl hr) (zb (pv 1)) (zb (pv 2))) (y7 _))))) (zv (zX xG)) yA) (zv (xF (Wj (uQ (yi (Za (uN hr)) (zb (pv 2)) (Wm rfl g_FIGURES) (by with_unfolding_all rfl)) (vF (yi ZQ (zN h_small_and_great (hr.mono (by decide)) (ze (zb (pv 0)) (ze (zb (pv 2)) zp)) (zh (zh zB))) (zN h_small_and_great (hr.mono (by decide)) (ze (zb (pv 1)) (ze (zb (pv 2)) zp)) (zh (zh zB))) (y7 _))))) (zv (zX xG)) yA)))) (zv (zX xG)))
noncomputable abbrev yK:Stmt:=uW (top 6) 1
theorem sc_Sieve_left:zL ["self", "query", "asked"] ["self", "query"] (zi yK):=⟨rfl,rfl,rfl,by decide +kernel,rfl,by decide +kernel,by decide +kernel⟩
theorem jP{C_Sieve:Addr}(A_Sieve:ClsAt K mg "Sieve" C_Sieve)(n_Sieve_counts:NoAttr K C_Sieve "counts")(h_has_enough:DefOk P w K mg base "has_enough" 2 2 ["counts", "asked"] yz)(h_sign_counts:DefOk P w K mg base "sign_counts" 1 1 ["text"] zH)(z_enumerate:mg "enumerate" = none){f:Addr}{fd:FuncData}(M_:jU K C_Sieve "left" f)(D_:Fun K "left" "Sieve.left" yK f fd):MetR P w K mg base "Sieve" "left" 3 1 ["self", "query"] ya:=by
 refine MetR.mk (k:=2) A_Sieve M_ D_ sc_Sieve_left rfl (fun _ _ _ _ _ _ us hl=>by obtain⟨_,_,rfl⟩:=lnz2 hl;rfl) (fun cdv A outer s H E hr=>?_)
 exact(zq (zW (i:=2) sc_Sieve_left.nd rfl (Or.inr rfl) (zN h_sign_counts (hr.mono (by decide)) (ze (zb (pv 1)) zp) (zh zB))) (zv (zX (ud (wb (tn:=["number", "counts"]) (fr:=["asked"]) (idx:=[2]) rfl rfl ⟨rfl,rfl,trivial⟩ (u7 0 1) (Qu (pv 0) A_Sieve.ns A_Sieve.cls n_Sieve_counts rfl z_enumerate (by decide +kernel)) (fun s H C fp=>(jc rfl (show List.Nodup (["number", "counts", "asked"]:List Str) by decide +kernel) rfl (Or.inl rfl) rfl (Or.inl rfl))) (fun s H C fp=>(vG (uR (zN h_has_enough (hr.mono (by decide)) (ze (zb (pv 1)) (ze (zb (pv 2)) zp)) (zh (zh zB)))))) (fun s H C fp=>(zb (pv 0))))))))
noncomputable abbrev yV:Stmt:=uW (top 6) 2
theorem ZG:zL ["self", "name"] ["self", "name"] (zi yV):=⟨rfl,rfl,rfl,by decide +kernel,rfl,by decide +kernel,by decide +kernel⟩
theorem ZX{C_Sieve:Addr}(A_Sieve:ClsAt K mg "Sieve" C_Sieve)(n_Sieve_counts:NoAttr K C_Sieve "counts")(h_sign_counts:DefOk P w K mg base "sign_counts" 1 1 ["text"] zH)(z_len:mg "len" = none){f:Addr}{fd:FuncData}(M_:jU K C_Sieve "add" f)(D_:Fun K "add" "Sieve.add" yV f fd):MetM P w K mg base "Sieve" "add" 2 1 ["self", "name"] ym:=by
 refine MetM.mk (k:=1) A_Sieve M_ D_ ZG rfl (fun _ _ _ _ _ _ us hl=>by obtain⟨_,_,rfl⟩:=lnz2 hl;rfl) (fun cdv A outer s H E hr=>?_)
 exact(zq (Uu (pv 0) A_Sieve.ns A_Sieve.cls n_Sieve_counts (zN h_sign_counts (hr.mono (by decide)) (ze (zb (pv 1)) zp) (zh zB)) (by decide +kernel)) (zv (Ut (zr uT (UA (pv 0) A_Sieve.ns A_Sieve.cls n_Sieve_counts rfl z_len (by decide +kernel)) zn))))
noncomputable abbrev vA:Stmt:=top 15
theorem sc_law:zL ["_law_script", "_law_names_here", "_law_sieve", "_law_name_here", "_law_every", "_law_some", "_law_k", "_law_query_here", "_law_signs", "_law_known", "_law_other"] ["_law_script"] (zi vA):=⟨rfl,rfl,rfl,by decide +kernel,rfl,by decide +kernel,by decide +kernel⟩
theorem ML{f:Addr}{fd:FuncData}(A_:Fun K "law" "law" vA f fd)(h_Sieve_left:MetR P w K mg base "Sieve" "left" 3 1 ["self", "query"] ya)(h_Sieve_add:MetM P w K mg base "Sieve" "add" 2 1 ["self", "name"] ym)(h_Sieve_signs:MetR P w K mg base "Sieve" "signs" 1 0 ["self"] yf)(c_Sieve:ClsM P w K mg base "Sieve" 2 1 ["self", "names"] zD)(h__law_is_left:DefOk P w K mg base "_law_is_left" 1 2 ["_law_query_here", "_law_name_here"] zQ)(h__law_drawn:DefOk P w K mg base "_law_drawn" 2 3 ["_law_script", "_law_k", "_law_many"] zj)(h__law_query:DefOk P w K mg base "_law_query" 3 4 ["_law_script", "_law_at", "_law_name_here", "_law_most"] z8)(h__law_name:DefOk P w K mg base "_law_name" 3 2 ["_law_script", "_law_at"] zR)(h__law_names:DefOk P w K mg base "_law_names" 4 3 ["_law_script", "_law_at", "_law_most"] z9)(z_enumerate:mg "enumerate" = none)(z_len:mg "len" = none)(z_sorted:mg "sorted" = none)(z_set:mg "set" = none)(z_range:mg "range" = none):FnOk P w K mg base CX0 5 f fd ["_law_script"] (spD K 1 Wv):=by
 refine fnD (k:=4) A_ sc_law rfl fun cdv A outer s H E hr=>?_
 refine zq ?_ ?_
 ·exact(zW (i:=1) sc_law.nd rfl (Or.inl rfl) (zN h__law_names (hr.mono (by decide)) (ze (zb (pv 0)) (ze zn (ze zn zp))) (zh (zh (zh zB)))))
 refine zq ?_ ?_
 ·exact(Yy (i:=2) c_Sieve (hr.mono (by decide)) rfl (ze (zb (pv 1)) zp) (zh zB) sc_law.nd rfl (Or.inl rfl))
 refine zq ?_ ?_
 ·exact(zW (i:=3) sc_law.nd rfl (Or.inl rfl) (zN h__law_name (hr.mono (by decide)) (ze (zb (pv 0)) (ze zn zp)) (zh (zh zB))))
 refine zq ?_ ?_
 ·exact(wj PassesOwn.never rfl (wl (ZN (ze (zb (pv 1)) (ze (zr zE (zb (pv 1)) (uS (ze (zb (pv 3)) zp))) zp)))) (yJ sc_law.nd rfl (Or.inr rfl)) (zq (zW (i:=5) sc_law.nd rfl (Or.inl rfl) (zr zE (zb (pv 4)) (uS (ze xz zp)))) (zq (wj PassesOwn.never rfl (wk rfl z_range (ze zn zp)) (yJ sc_law.nd rfl (Or.inl rfl)) (zq (zW (i:=7) sc_law.nd rfl (Or.inr rfl) (zN h__law_query (hr.mono (by decide)) (ze (zb (pv 0)) (ze (zr zE zn (zr yL zn (zb (pv 6)))) (ze (ZO WE (zb (pv 5)) (zN h__law_drawn (hr.mono (by decide)) (ze (zb (pv 0)) (ze (zr uT zn (zb (pv 6))) (ze (xc uv rfl z_len PySem.boot_len (ze (zb (pv 5)) zp)) zp))) (zh (zh (zh zB))))) (ze zn zp)))) (zh (zh (zh (zh zB)))))) (zq (zW (i:=7) sc_law.nd rfl (Or.inr rfl) (Uy (zb (pv 7)) (zr uT zn (zr yL zn (zN h__law_drawn (hr.mono (by decide)) (ze (zb (pv 0)) (ze (zr zE zn (zr yL zn (zb (pv 6)))) (ze zn zp))) (zh (zh (zh zB)))))))) (zv (xF (yi (ji hr.units) (j9 h_Sieve_left (hr.mono (by decide)) (pv 2) (ze (zb (pv 7)) zp) (zh zB)) (ud (wb (tn:=["_law_number", "_law_one"]) (fr:=["_law_query_here"]) (idx:=[7]) rfl rfl ⟨rfl,rfl,trivial⟩ (u7 0 1) (PDI.h (YA rfl z_enumerate (ze (zb (pv 4)) zp))) (fun s H C fp=>(jc rfl (show List.Nodup (["_law_number", "_law_one", "_law_query_here"]:List Str) by decide +kernel) rfl (Or.inl rfl) rfl (Or.inl rfl))) (fun s H C fp=>(vG (uR (zN h__law_is_left (hr.mono (by decide)) (ze (zb (pv 2)) (ze (zb (pv 1)) zp)) (zh (zh zB)))))) (fun s H C fp=>(zb (pv 0))))) (y7 _)) (zv (zX xG)) yA))))) (zq (zW (i:=8) sc_law.nd rfl (Or.inl rfl) (ud (ZM rfl rfl z_sorted rfl z_set (ze (jd F.plainAttrs_str F.slot_str_join F.type_str_join QP xz (ze (zb (pv 4)) zp)) zp)))) (zq (xF (yi (ji hr.units) (Xt h_Sieve_signs (hr.mono (by decide)) (pv 2)) (ud (Vd (tn:=["_law_sign"]) (fr:=["_law_every"]) (idx:=[4]) rfl rfl ⟨rfl,rfl,trivial⟩ (vx 0) (wl (zb (pv 8))) (fun s H C fp=>(yJ (show List.Nodup (["_law_sign", "_law_every"]:List Str) by decide +kernel) rfl (Or.inr rfl))) (fun s H C fp=>jb) (fun s H C fp=>(ZN (ze (zb (pv 0)) (ze (xc uv rfl z_len PySem.boot_len (ze (ud (wb (tn:=["_law_one"]) (fr:=["_law_sign"]) (idx:=[0]) rfl rfl ⟨rfl,rfl,trivial⟩ (vx 0) (PDI.h (wl (zb (pv 1)))) (fun s H C fp=>(yJ (show List.Nodup (["_law_one", "_law_sign"]:List Str) by decide +kernel) rfl (Or.inl rfl))) (fun s H C fp=>(vG (yi (UF (uN hr)) (zb (pv 1)) (zb (pv 0)) (by with_unfolding_all rfl)))) (fun s H C fp=>(zb (pv 0))))) zp)) zp)))))) (y7 _)) (zv (zX xG)) yA) (zv (Qr (Mw (Uv (Qt (yi (ZR hr.units) (zb (pv 4)) (zb (pv 1)) (y7 _))) (Vc (Uw (ji hr.units) (Ux h_Sieve_add (hr.mono (by decide)) (pv 2) (ze (zb (pv 3)) zp) (zh zB)) (xc uv rfl z_len PySem.boot_len (ze (zb (pv 1)) zp)) (y7 _))))) (zv (zX xG)) yA)))))))
 refine zq ?_ ?_
 ·exact(zW (i:=9) sc_law.nd rfl (Or.inl rfl) (UC (ds:=[.str "Ab1", .str "AAb11", .str "ab", .str "B2a", .str "aAb"]) (by rfl) (by decide)))
 refine zq ?_ ?_
 ·exact(Yy (i:=10) c_Sieve (hr.mono (by decide)) rfl (ze (zb (pv 9)) zp) (zh zB) sc_law.nd rfl (Or.inl rfl))
 exact(by refine zq ?_ ?_;(exact(by refine wj (hp:=?_) (hc:=?_) (hi:=?_) (hg:=?_) (hb:=?_) (hs:=?_);(exact PassesOwn.never);rfl;(refine wl ?_;refine UB ?_ ?_;rfl;decide);(exact(yJ sc_law.nd rfl (Or.inr rfl)));(exact(zv (xF (yi (ji hr.units) (j9 h_Sieve_left (hr.mono (by decide)) (pv 10) (ze (zb (pv 7)) zp) (zh zB)) (ud (wb (tn:=["_law_number", "_law_one"]) (fr:=["_law_query_here"]) (idx:=[7]) rfl rfl ⟨rfl,rfl,trivial⟩ (u7 0 1) (PDI.h (YA rfl z_enumerate (ze (zb (pv 9)) zp))) (fun s H C fp=>(jc rfl (show List.Nodup (["_law_number", "_law_one", "_law_query_here"]:List Str) by decide +kernel) rfl (Or.inl rfl) rfl (Or.inl rfl))) (fun s H C fp=>(vG (uR (zN h__law_is_left (hr.mono (by decide)) (ze (zb (pv 2)) (ze (zb (pv 1)) zp)) (zh (zh zB)))))) (fun s H C fp=>(zb (pv 0))))) (y7 _)) (zv (zX xG)) yA)));(intro _;rfl)));(exact(zv (zX xG))))
end
set_option autoImplicit true in
set_option relaxedAutoImplicit true in
theorem all_mk{l:PySem.W.OpenLaw}{w:World}{K:Frag}{h:Heap}{mg:Str→Option Value}{fa:Addr}(X:K.In h)(G:h.Ns mainGlobals mg)(hfa:mg "law" = some (.ref fa))(hl:∀ns:List Int,ns.length≤63→Wv [.scr ns]=.ok (.bl true))
  {f0 f1 f2 f3 f4 f5 f6 f7 f8 f9 f10 f11 f12 f13 f14:Addr}
  {C_Sieve:Addr}
  (ns_Sieve:nsIn K mainGlobals "Sieve" = some (some (.ref C_Sieve)))
  (pg_Sieve:plainGet K C_Sieve Str.empty=true)
  (hd_Sieve:hasDictIn K C_Sieve=true)
  (po_Sieve:plainOver K C_Sieve=true)
  (sa_Sieve:findIn K (.ref C_Sieve) "__setattr__" = some (some (.builtin "object.__setattr__")))
  (mk_Sieve:makesIn K C_Sieve=true)
  (kc_Sieve:keepIn K (.ref C_Sieve)=true)
  (n_Sieve_counts:findIn K (.ref C_Sieve) "counts" = some none)
  (a0:nsIn K mainGlobals "_law_cell" = some (some (.ref f0))) (l0:K.lookup f0=some ⟨oc0,od0,.func (fnOf "_law_cell" "_law_cell" (zO yI) (zC yI) (zi yI) .none kV0 dc0 pm0 an0 cd0 ct0),sl0⟩) (c0:codeIn K cd0 "_law_cell" = true) (k0:keepIn K (.ref f0)=true)
  (a1:nsIn K mainGlobals "_law_drawn" = some (some (.ref f1))) (l1:K.lookup f1=some ⟨oc1,od1,.func (fnOf "_law_drawn" "_law_drawn" (zO yu) (zC yu) (zi yu) .none kV1 dc1 pm1 an1 cd1 ct1),sl1⟩) (c1:codeIn K cd1 "_law_drawn" = true) (k1:keepIn K (.ref f1)=true)
  (a2:nsIn K mainGlobals "_law_name" = some (some (.ref f2))) (l2:K.lookup f2=some ⟨oc2,od2,.func (fnOf "_law_name" "_law_name" (zO yG) (zC yG) (zi yG) .none kV2 dc2 pm2 an2 cd2 ct2),sl2⟩) (c2:codeIn K cd2 "_law_name" = true) (k2:keepIn K (.ref f2)=true)
  (a3:nsIn K mainGlobals "_law_names" = some (some (.ref f3))) (l3:K.lookup f3=some ⟨oc3,od3,.func (fnOf "_law_names" "_law_names" (zO yt) (zC yt) (zi yt) .none kV3 dc3 pm3 an3 cd3 ct3),sl3⟩) (c3:codeIn K cd3 "_law_names" = true) (k3:keepIn K (.ref f3)=true)
  (a4:nsIn K mainGlobals "sign_counts" = some (some (.ref f4))) (l4:K.lookup f4=some ⟨oc4,od4,.func (fnOf "sign_counts" "sign_counts" (zO ye) (zC ye) (zi ye) .none kV4 dc4 pm4 an4 cd4 ct4),sl4⟩) (c4:codeIn K cd4 "sign_counts" = true) (k4:keepIn K (.ref f4)=true)
  (a5:findIn K (.ref C_Sieve) "__init__" = some (some (.ref f5))) (i5:isFn K (.ref f5)=true) (l5:K.lookup f5=some ⟨oc5,od5,.func (fnOf "__init__" "Sieve.__init__" (zO zZ) (zC zZ) (zi zZ) .none kV5 dc5 pm5 an5 cd5 ct5),sl5⟩) (c5:codeIn K cd5 "Sieve.__init__" = true) (k5:keepIn K (.ref f5)=true)
  (a6:nsIn K mainGlobals "_law_mark" = some (some (.ref f6))) (l6:K.lookup f6=some ⟨oc6,od6,.func (fnOf "_law_mark" "_law_mark" (zO yH) (zC yH) (zi yH) .none kV6 dc6 pm6 an6 cd6 ct6),sl6⟩) (c6:codeIn K cd6 "_law_mark" = true) (k6:keepIn K (.ref f6)=true)
  (a7:nsIn K mainGlobals "_law_query" = some (some (.ref f7))) (l7:K.lookup f7=some ⟨oc7,od7,.func (fnOf "_law_query" "_law_query" (zO yr) (zC yr) (zi yr) .none kV7 dc7 pm7 an7 cd7 ct7),sl7⟩) (c7:codeIn K cd7 "_law_query" = true) (k7:keepIn K (.ref f7)=true)
  (a8:nsIn K mainGlobals "_law_is_left" = some (some (.ref f8))) (l8:K.lookup f8=some ⟨oc8,od8,.func (fnOf "_law_is_left" "_law_is_left" (zO z5) (zC z5) (zi z5) .none kV8 dc8 pm8 an8 cd8 ct8),sl8⟩) (c8:codeIn K cd8 "_law_is_left" = true) (k8:keepIn K (.ref f8)=true)
  (a9:findIn K (.ref C_Sieve) "signs" = some (some (.ref f9))) (i9:isFn K (.ref f9)=true) (l9:K.lookup f9=some ⟨oc9,od9,.func (fnOf "signs" "Sieve.signs" (zO yB) (zC yB) (zi yB) .none kV9 dc9 pm9 an9 cd9 ct9),sl9⟩) (c9:codeIn K cd9 "Sieve.signs" = true) (k9:keepIn K (.ref f9)=true)
  (a10:nsIn K mainGlobals "small_and_great" = some (some (.ref f10))) (l10:K.lookup f10=some ⟨oc10,od10,.func (fnOf "small_and_great" "small_and_great" (zO zP) (zC zP) (zi zP) .none kV10 dc10 pm10 an10 cd10 ct10),sl10⟩) (c10:codeIn K cd10 "small_and_great" = true) (k10:keepIn K (.ref f10)=true)
  (a11:nsIn K mainGlobals "has_enough" = some (some (.ref f11))) (l11:K.lookup f11=some ⟨oc11,od11,.func (fnOf "has_enough" "has_enough" (zO yq) (zC yq) (zi yq) .none kV11 dc11 pm11 an11 cd11 ct11),sl11⟩) (c11:codeIn K cd11 "has_enough" = true) (k11:keepIn K (.ref f11)=true)
  (a12:findIn K (.ref C_Sieve) "left" = some (some (.ref f12))) (i12:isFn K (.ref f12)=true) (l12:K.lookup f12=some ⟨oc12,od12,.func (fnOf "left" "Sieve.left" (zO yK) (zC yK) (zi yK) .none kV12 dc12 pm12 an12 cd12 ct12),sl12⟩) (c12:codeIn K cd12 "Sieve.left" = true) (k12:keepIn K (.ref f12)=true)
  (a13:findIn K (.ref C_Sieve) "add" = some (some (.ref f13))) (i13:isFn K (.ref f13)=true) (l13:K.lookup f13=some ⟨oc13,od13,.func (fnOf "add" "Sieve.add" (zO yV) (zC yV) (zi yV) .none kV13 dc13 pm13 an13 cd13 ct13),sl13⟩) (c13:codeIn K cd13 "Sieve.add" = true) (k13:keepIn K (.ref f13)=true)
  (a14:nsIn K mainGlobals "law" = some (some (.ref f14))) (l14:K.lookup f14=some ⟨oc14,od14,.func (fnOf "law" "law" (zO vA) (zC vA) (zi vA) .none kV14 dc14 pm14 an14 cd14 ct14),sl14⟩) (c14:codeIn K cd14 "law" = true) (k14:keepIn K (.ref f14)=true)
  (g_FIGURES:nsIn K mainGlobals "FIGURES" = some (some (.str "0123456789" t_FIGURES)))
  (g_SMALL:nsIn K mainGlobals "SMALL" = some (some (.str "abcdefghijklmnopqrstuvwxyz" t_SMALL)))
  (z_len:nsIn K mainGlobals "len" = some none)
  (z_range:nsIn K mainGlobals "range" = some none)
  (z_min:nsIn K mainGlobals "min" = some none)
  (z_sorted:nsIn K mainGlobals "sorted" = some none)
  (z_enumerate:nsIn K mainGlobals "enumerate" = some none)
  (z_set:nsIn K mainGlobals "set" = some none)
  : ∃fd:FuncData,(∀(s:Shared) (v:Value),BindsTo s fd ⟨[v],[]⟩ [("_law_script", v)])∧∀base:Heap,K.In base→base.Ns mainGlobals mg→FnOk l.prog w K mg base CX0 5 fa fd ["_law_script"] (X3 K):=by
 have e:=hfa.symm.trans (mg_of X G a14)
 cases e
 have A_Sieve:ClsAt K mg "Sieve" C_Sieve:=⟨ns_Sieve,⟨pg_Sieve,hd_Sieve,po_Sieve,sa_Sieve⟩,mg_of X G ns_Sieve⟩
 have D0:yO K mg "_law_cell" yI f0 _:=⟨yT (st:=yI) l0 c0 k0,mg_of X G a0⟩
 have D1:yO K mg "_law_drawn" yu f1 _:=⟨yT (st:=yu) l1 c1 k1,mg_of X G a1⟩
 have D2:yO K mg "_law_name" yG f2 _:=⟨yT (st:=yG) l2 c2 k2,mg_of X G a2⟩
 have D3:yO K mg "_law_names" yt f3 _:=⟨yT (st:=yt) l3 c3 k3,mg_of X G a3⟩
 have D4:yO K mg "sign_counts" ye f4 _:=⟨yT (st:=ye) l4 c4 k4,mg_of X G a4⟩
 have D6:yO K mg "_law_mark" yH f6 _:=⟨yT (st:=yH) l6 c6 k6,mg_of X G a6⟩
 have D7:yO K mg "_law_query" yr f7 _:=⟨yT (st:=yr) l7 c7 k7,mg_of X G a7⟩
 have D8:yO K mg "_law_is_left" z5 f8 _:=⟨yT (st:=z5) l8 c8 k8,mg_of X G a8⟩
 have D10:yO K mg "small_and_great" zP f10 _:=⟨yT (st:=zP) l10 c10 k10,mg_of X G a10⟩
 have D11:yO K mg "has_enough" yq f11 _:=⟨yT (st:=yq) l11 c11 k11,mg_of X G a11⟩
 refine⟨fnOf "law" "law" (zO vA) (zC vA) (zi vA) .none kV14 dc14 pm14 an14 cd14 ct14,fun s v=>.of_eq rfl,fun base _ _=>?_⟩
 have h__law_cell:DefOk l.prog w K mg base "_law_cell" 1 2 ["_law_script", "_law_k"] yW:=ZW D0 (mg_none_of X G z_len)
 have h__law_drawn:DefOk l.prog w K mg base "_law_drawn" 2 3 ["_law_script", "_law_k", "_law_many"] zj:=jO D1 h__law_cell
 have h__law_name:DefOk l.prog w K mg base "_law_name" 3 2 ["_law_script", "_law_at"] zR:=ZU D2 h__law_drawn (mg_none_of X G z_range)
 have h__law_names:DefOk l.prog w K mg base "_law_names" 4 3 ["_law_script", "_law_at", "_law_most"] z9:=jN D3 h__law_drawn h__law_name (mg_none_of X G z_len) (mg_none_of X G z_range)
 have h_sign_counts:DefOk l.prog w K mg base "sign_counts" 1 1 ["text"] zH:=jk D4
 have c_Sieve:=vN (P:=l.prog) (w:=w) (base:=base) A_Sieve n_Sieve_counts h_sign_counts ⟨mk_Sieve,a5,i5,kc_Sieve⟩ (yT (st:=zZ) l5 c5 k5)
 have h__law_mark:DefOk l.prog w K mg base "_law_mark" 1 1 ["_law_sign"] yk:=ZV D6
 have h__law_query:DefOk l.prog w K mg base "_law_query" 3 4 ["_law_script", "_law_at", "_law_name_here", "_law_most"] z8:=jM D7 h__law_drawn h__law_mark (mg_none_of X G z_range) (mg_none_of X G z_len) (mg_none_of X G z_min)
 have h__law_is_left:DefOk l.prog w K mg base "_law_is_left" 1 2 ["_law_query_here", "_law_name_here"] zQ:=uI D8
 have h_Sieve_signs:=jl (P:=l.prog) (w:=w) (base:=base) A_Sieve n_Sieve_counts (mg_none_of X G z_sorted) ⟨a9,i9,k9⟩ (yT (st:=yB) l9 c9 k9)
 have h_small_and_great:DefOk l.prog w K mg base "small_and_great" 1 2 ["counts", "letter"] zF:=vc D10
 have h_has_enough:DefOk l.prog w K mg base "has_enough" 2 2 ["counts", "asked"] yz:=jL D11 h_small_and_great (mg_of X G g_FIGURES) (mg_of X G g_SMALL)
 have h_Sieve_left:=jP (P:=l.prog) (w:=w) (base:=base) A_Sieve n_Sieve_counts h_has_enough h_sign_counts (mg_none_of X G z_enumerate) ⟨a12,i12,k12⟩ (yT (st:=yK) l12 c12 k12)
 have h_Sieve_add:=ZX (P:=l.prog) (w:=w) (base:=base) A_Sieve n_Sieve_counts h_sign_counts (mg_none_of X G z_len) ⟨a13,i13,k13⟩ (yT (st:=yV) l13 c13 k13)
 exact MW (ML (yT (st:=vA) l14 c14 k14) h_Sieve_left h_Sieve_add h_Sieve_signs c_Sieve h__law_is_left h__law_drawn h__law_query h__law_name h__law_names (mg_none_of X G z_enumerate) (mg_none_of X G z_len) (mg_none_of X G z_sorted) (mg_none_of X G z_set) (mg_none_of X G z_range)) hl
end Law
open PySem PySem.W PyProof.Rows
set_option maxRecDepth 100000 in
set_option maxHeartbeats 0 in
theorem PySem.Challenge.cw_fewfind_k80_sieves_holds : PySem.Challenge.rw_fewfind_k80_sieves.Holds := by
 w_on;o_law;k_head;(case hw=>w_witness2)
 k_fill
 refine FD.walk (l:=PySem.Challenge.rw_fewfind_k80_sieves) (k:=5) (p := "_law_script") rfl rfl ⟨rfl,by decide,by decide⟩ (fun w h Y=>PySem.W.kIn_of Y) ?F
 case F=>
  intro w mg fa h KX G hmg
  refine' Law.all_mk KX G hmg Law.main ..
  any_goals first|k_is|k_exc|with_unfolding_all rfl
