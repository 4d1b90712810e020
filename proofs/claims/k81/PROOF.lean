import PyProof.Rows.All
import Wide.All
import OpenK.AllK
import Wide.FinOn
import Lean
import PyProof.EqAt
import PyProof.EqKinds
import PyProof.TupleCall
import PyProof.NeKinds
import PyProof.NeData
import PyProof.P3In
import PyProof.ZipIter
import PyProof.Draws
import PyProof.StrWalks
import PyProof.IsiPairs
import PyProof.IsiSeqPairs
import PyProof.ConsumeWalk
import PyProof.ListStr
import PyProof.IsiHeapPairs
import PyProof.Rows.Range3
import PyProof.IsiNone
import KE.KRevIter
import KE.KRevSl
import PyProof.Conv_int_bool
import PyProof.ListRange
import PyProof.TupleOfSeq
import PyProof.MinMaxWalk
import PyProof.WalkInts
import PyProof.SeqI3
import PyProof.SetKind
import PyProof.Rows.SetFrom
import PyProof.CollectWalk
import PyProof.FactsAll.set
import PyProof.Rows.SortWalk
import PyProof.Rows.SortShell
import PyProof.Rows.SumAny
import PyProof.DictWalks
import PyProof.Rows.SortRev
import PyProof.Rows.SortStr
import PyProof.AttrMissHeap
import KE.KDictOf
import KE.KEqDict
import KE.KItemsList
import PyProof.Rows.SortKeyStr
import PySem.Challenge.RW_fewfind_k81_whole_sieves
set_option Elab.async false
set_option linter.all false
set_option maxRecDepth 100000
open PySem.W (instObj methodObj lookIn plainGet hasDictIn findIn plainGet_of isFn plainOver takerIn makesIn emptyDict keepIn callWith_K fnOf codeIn nsIn mg_of mg_none_of)
open PyProof.Rows (boot_sorted)
open List (mem_filter mem_range mem_cons_self mem_cons_of_mem mem_cons mem_append mem_append_left getElem?_set_self getElem?_set_ne mem_append_right size_toArray length_cons map_cons length_map append_nil nodup_cons getElem?_append_right getElem?_replicate getElem?_append_left getElem?_map mem_of_getElem? length_append length_replicate length_drop length_set replicate_succ flatten_cons append_assoc foldl_cons nil_append map_nil getElem?_set drop_eq_getElem_cons drop_length lookup_cons set_set all_eq_true range'_succ range_eq_range' length_range mem_map pairwise_iff_getElem pairwise_cons pairwise_map map_map getElem?_eq_getElem map_append take_of_length_le getElem?_cons_succ find?_cons any_cons length_nil map_congr_left getElem?_cons_zero getD_eq_getElem?_getD set_cons_succ set_cons_zero getElem_mem drop_zero getD_cons_succ getD_cons_zero length_filter_le flatMap_cons)
open Nat (lt_of_lt_of_le lt_irrefl ne_of_lt le_trans le_of_lt ne_of_gt le_refl zero_le le_succ lt_or_ge zero_add)
open Int (emod_nonneg)
open Array (length_toList getElem_toList)
open PySem.W (Frag)
open PySem.Heap (get?_push_of_some)
namespace L2
open PySem PySem.Spec PyProof.Rows
theorem lnz1{α:Type _}{l:List α}(h:l.length=1):∃a,l=[a]:=List.length_eq_one_iff.mp h
theorem lnz2{α:Type _}{l:List α}(h:l.length=2):∃a b,l=[a,b]:=by
 match l,h with
 |[a,b],_=>exact⟨a,b,rfl⟩
theorem lnz3{α:Type _}{l:List α}(h:l.length=3):∃a b c,l=[a,b,c]:=by
 match l,h with
 |[a,b,c],_=>exact⟨a,b,c,rfl⟩
theorem lnz4{α:Type _}{l:List α}(h:l.length=4):∃a b c d,l=[a,b,c,d]:=by
 match l,h with
 |[a,b,c,d],_=>exact⟨a,b,c,d,rfl⟩
noncomputable abbrev Key:=Sum Int Str
noncomputable def X2:Key→Value→Bool
 |.inl k,v=>Value.isInt k v
 |.inr x,v=>Value.isStrOf x v
noncomputable def keyH(w:World):Key→Int
 |.inl k=>hashInt k
 |.inr x=>hashStr w x
theorem y8:∀{k:Key} {v:Value},X2 k v=true→(∃i t,k=Sum.inl i∧v=Value.int i t)∨(∃x t,k=Sum.inr x∧v=Value.str x t)
 |.inl i,v,h=>by
  obtain⟨t,e⟩:=Value.isInt_shape (k:=i) (v:=v) h
  exact .inl ⟨i,t,rfl,e⟩
 |.inr x,v,h=>by
  obtain⟨t,e⟩:=Value.isStrOf_shape (x:=x) (v:=v) h
  exact .inr ⟨x,t,rfl,e⟩
theorem Qr(i:Int)(t:Tok):X2 (.inl i) (.int i t)=true:=by simp[X2,Value.isInt]
theorem Qq(x:Str)(t:Tok):X2 (.inr x) (.str x t)=true:=by simp[X2,Value.isStrOf]
theorem zg0(a b:Int):decide ((Sum.inl a:Key)=Sum.inl b)=(a==b):=by
 by_cases e:a=b
 ·subst e;simp
 ·have h:¬ (Sum.inl a:Key)=Sum.inl b:=fun q=>e (Sum.inl.inj q)
  rw[decide_eq_false h]
  exact(beq_eq_false_iff_ne.mpr e).symm
theorem zf7(a b:Str):decide ((Sum.inr a:Key)=Sum.inr b)=decide (a=b):=by
 by_cases e:a=b
 ·subst e;simp
 ·have h:¬ (Sum.inr a:Key)=Sum.inr b:=fun q=>e (Sum.inr.inj q)
  rw[decide_eq_false h,decide_eq_false e]
theorem zf9(a:Int)(b:Str):decide ((Sum.inl a:Key)=Sum.inr b)=false:=decide_eq_false (fun q=>nomatch q)
theorem zf8(a:Str)(b:Int):decide ((Sum.inr a:Key)=Sum.inl b)=false:=decide_eq_false (fun q=>nomatch q)
noncomputable def yD(prog:Program)(w:World):PySem.KeyKind prog w Key where
 is:=X2
 hash:=keyH w
 inj:=fun v a b ha hb=>by
  rcases y8 ha with ⟨i,t,rfl,rfl⟩|⟨x,t,rfl,rfl⟩
  ·rcases y8 hb with ⟨j,u,rfl,e⟩|⟨y,u,rfl,e⟩
   ·injection e with e1 _;rw[e1]
   ·exact nomatch e
  ·rcases y8 hb with ⟨j,u,rfl,e⟩|⟨y,u,rfl,e⟩
   ·exact nomatch e
   ·injection e with e1 _;rw[e1]
 byValue:=fun k v h=>by
  rcases y8 h with ⟨i,t,rfl,rfl⟩|⟨x,t,rfl,rfl⟩ <;> rfl
 pyHash:=fun hv h=>by
  rcases y8 hv with ⟨i,t,rfl,rfl⟩|⟨x,t,rfl,rfl⟩
  ·exact wpAny_pyHash_int h
  ·exact wpAny_pyHash_str h
 eqBool:=fun hu hv h=>by
  rcases y8 hu with ⟨i,t,rfl,rfl⟩|⟨x,t,rfl,rfl⟩
  ·rcases y8 hv with ⟨j,u,rfl,rfl⟩|⟨y,u,rfl,rfl⟩
   ·rw[zg0] at h;exact wpAny_eqBool_int h
   ·rw[zf9] at h;exact SeqAt.EqAt.int_str i t y u _ _ _ _ h
  ·rcases y8 hv with ⟨j,u,rfl,rfl⟩|⟨y,u,rfl,rfl⟩
   ·rw[zf8] at h;exact SeqAt.EqAt.str_int x t j u _ _ _ _ h
   ·rw[zf7] at h;exact wpAny_eqBool_str h
 «strs»:=fun k x t v h=>by
  rcases y8 h with ⟨i,u,rfl,e⟩|⟨y,u,rfl,e⟩
  ·exact nomatch e
  ·injection e with e1 _
   subst e1
   cases v <;> rfl
theorem Vp(prog:Program)(w:World)(i:Int)(t:Tok):(yD prog w).is (.inl i) (.int i t)=true:=Qr i t
theorem Vo(prog:Program)(w:World)(x:Str)(t:Tok):(yD prog w).is (.inr x) (.str x t)=true:=Qq x t
inductive V where
 | non|bl (b:Bool) | int (i:Int) | str (x:Str) | byt (b:Array UInt8) | flt (b:UInt64) | ref (a:Addr) | ty (n:String)
 deriving DecidableEq
noncomputable def RelV:V→Value→Prop
 |.non,u=>u=Value.none
 |.bl b,u=>u=Value.bool b
 |.int i,u=>∃t,u=Value.int i t
 |.str x,u=>∃t,u=Value.str x t
 |.byt b,u=>∃t,u=Value.bytes b t
 |.flt b,u=>∃t,u=Value.float b t
 |.ref a,u=>u=Value.ref a
 |.ty n,u=>u=Value.type n
noncomputable abbrev Vals:List V→List Value→Prop:=Paired RelV
theorem Vals.length{xs:List V}{us:List Value}(r:Vals xs us):xs.length=us.length:=Paired.length r
theorem Vals.get:∀{xs:List V} {us:List Value} {i:Nat} {x:V},Vals xs us→xs[i]?=some x→∃u,us[i]?=some u∧RelV x u
 |_,_,_,_,.nil,e=>by simp at e
 |_,_,0,_,.cons r _,e=>by simp at e;subst e;exact⟨_,rfl,r⟩
 |_,_,i+1,x,.cons _ t,e=>by
  obtain⟨u,h1,h2⟩:=Vals.get (i:=i) (x:=x) t (by simpa using e)
  exact⟨u,by simpa using h1,h2⟩
theorem Vals.set{x:V}{u:Value}(r:RelV x u):∀{xs:List V} {us:List Value} (i:Nat),Vals xs us→Vals (xs.set i x) (us.set i u)
 |_,_,_,.nil=>.nil
 |_,_,0,.cons _ t=>.cons r t
 |_,_,i+1,.cons q t=>.cons q (Vals.set r i t)
theorem Vals.append:∀{xs ys:List V} {us ws:List Value},Vals xs us→Vals ys ws→Vals (xs++ys) (us++ws)
 |_,_,_,_,.nil,s=>s
 |_,_,_,_,.cons r t,s=>.cons r (Vals.append t s)
theorem Vals.take:∀{xs:List V} {us:List Value} (n:Nat),Vals xs us→Vals (xs.take n) (us.take n)
 |_,_,0,_=>.nil
 |_,_,_+1,.nil=>.nil
 |_,_,n+1,.cons r t=>.cons r (Vals.take n t)
theorem Vals.drop:∀{xs:List V} {us:List Value} (n:Nat),Vals xs us→Vals (xs.drop n) (us.drop n)
 |_,_,0,r=>r
 |_,_,_+1,.nil=>.nil
 |_,_,n+1,.cons _ t=>Vals.drop n t
noncomputable def RelO:Option V→Option Value→Prop
 |some v,some u=>RelV v u
 |none,none=>True
 |_,_=>False
noncomputable def KV{κ:Type}:List (κ×V)→List (κ×Value)→Prop:=Paired fun (p:κ×V) (q:κ×Value)=>p.1=q.1∧RelV p.2 q.2
noncomputable def kV:Key→V
 |.inl i=>.int i
 |.inr x=>.str x
inductive HO where
 | lst (xs:List V)
 | tup (xs:List V)
 | dK (kvs:List (Key×V)) | dT (kvs:List (List Key×V))
 | set (S:Int→Bool) (n:Nat)
 | ins (C dx:Addr) (fs:List (Str×V))
 | own (x:Addr)
 | xd (fs:List (Str×V))
 | met (f x:Addr)
 | rng (lo hi:Int)
 | frz (o:Obj) (u:HO)
 | tbl (ps:Array Value)
 | ext (φ:Heap→Prop)
noncomputable abbrev Hp:=Addr→Option HO
noncomputable def upd(H:Hp)(a:Addr)(o:HO):Hp:=fun b=>if b=a then some o else H b
theorem zn{H:Hp}{a:Addr}{o:HO}:upd H a o a=some o:=by unfold upd;rw[if_pos rfl]
theorem zi{H:Hp}{a b:Addr}{o:HO}(h:b≠a):upd H a o b=H b:=by unfold upd;rw[if_neg h]
theorem upd_upd{H:Hp}{a:Addr}{o u:HO}:upd (upd H a o) a u=upd H a u:=by
 funext b;unfold upd;split <;> rfl
theorem ne_of{H:Hp}{a b:Addr}{o u:HO}(h:H a=some o)(h':H b=some u)(d:o≠u):a≠b:=by
 intro e;subst e;rw[h] at h';exact d (Option.some.inj h')
theorem zF{H:Hp}{a b:Addr}{o:HO}(h:H a=some o)(h':H b=none):a≠b:=by
 intro e;subst e;rw[h] at h';cases h'
section
variable(P:Program)(w:World)
noncomputable def ObjOk(H:Hp)(h:Heap)(a:Addr):HO→Prop
 |.lst xs=>xs.length≤sizeLine∧∃(its:List Value) (n:Nat),Vals xs its∧h.get? a=some { cls:=.type "list", data:=.seq its.toArray n }
 |.tup xs=>xs.length≤sizeLine∧∃its:List Value,Vals xs its∧IsTup h a its.toArray
 |.dK kvs=>kvs.length≤sizeLine∧(a==sysModules)=false∧∃vs,KV kvs vs∧h.DictOf (yD P w) a vs
 |.dT kvs=>kvs.length≤sizeLine∧(a==sysModules)=false∧∃xs:List (List Key×Addr×Value),
   Paired (fun (p:List Key×V) (q:List Key×Addr×Value)=>p.1=q.1∧H q.2.1=some (.tup (p.1.map kV))∧RelV p.2 q.2.2) kvs xs ∧
   ∃o es ep,h.get? a=some o∧o.ExactDict∧o.data=.dict es ep∧es.toList=xs.map (entryOfKey (tupleKind (yD P w)))∧(xs.map (·.1)).Nodup
 |.set S n=>h.SetOf (intKind P w) a S n
 |.ins C dx fs=>H dx=some (.own a)∧fs.length≤1000∧dx≠a∧h.get? a=some (instObj C dx) ∧
   ∃mA,h.Ns1 dx mA∧(∀f,RelO (fs.lookup f) (mA f))∧PySem.Within mA (fs.map (·.1))
 |.own _=>∃o,h.get? a=some o
 |.xd fs=>∃mA,h.Ns1 a mA∧∀f,RelO (fs.lookup f) (mA f)
 |.rng lo hi=>∃t u v,h.get? a=some { cls:=.type "range", data:=.fields #[.int lo t,.int hi u,.int 1 v] }
 |.frz o u=>h.get? a=some o∧ObjOk H h a u
 |.tbl ps=>h.get? a=some { cls:=.none,data:=.fields ps }
 |.met f x=>h.get? a=some (methodObj (.ref f) (.ref x))
 |.ext φ=>φ h∧(∃o,h.get? a=some o)∧∀h1 h2:Heap,φ h1→(∀o,h1.get? a=some o→h2.get? a=some o)→φ h2
noncomputable def HOk(H:Hp)(h:Heap):Prop:=∀a o,H a=some o→ObjOk P w H h a o
end
section
variable{P:Program}{w:World}{H H':Hp}{h h':Heap}{a:Addr}{o:HO}
theorem ObjOk.lt(x:ObjOk P w H h a o):a<h.objs.size:=by
 cases o with
 |lst xs=>obtain⟨_,_,_,_,e⟩:=x;exact Heap.lt_size e
 |tup xs=>obtain⟨_,_,_,p⟩:=x;exact p.lt
 |dK kvs=>obtain⟨_,_,_,_,o,_,_,e,_⟩:=x;exact Heap.lt_size e
 |dT kvs=>obtain⟨_,_,_,_,o,_,_,e,_⟩:=x;exact Heap.lt_size e
 |set S n=>obtain⟨o,_,_,_,e,_⟩:=x;exact Heap.lt_size e
 |ins C dx fs=>obtain⟨_,_,_,e,_⟩:=x;exact Heap.lt_size e
 |own y=>obtain⟨_,e⟩:=x;exact Heap.lt_size e
 |xd fs=>obtain⟨_,⟨_,_,_,e,_⟩,_⟩:=x;exact Heap.lt_size e
 |rng lo hi=>obtain⟨_,_,_,e⟩:=x;exact Heap.lt_size e
 |frz ob u=>obtain⟨e,_⟩:=x;exact Heap.lt_size e
 |tbl ps=>exact Heap.lt_size (show h.get? a=some _ from x)
 |met f y=>exact Heap.lt_size (show h.get? a=some _ from x)
 |ext φ=>obtain⟨_,⟨_,e⟩,_⟩:=x;exact Heap.lt_size e
theorem Paired.mapP{α β:Type}{F G:α→β→Prop}:∀{l₁:List α} {l₂:List β},Paired F l₁ l₂→(∀a b,F a b→G a b)→Paired G l₁ l₂
 |_,_,.nil,_=>.nil
 |_,_,.cons r t,f=>.cons (f _ _ r) (Paired.mapP t f)
theorem ObjOk.stay(x:ObjOk P w H h a o)(k:∀b u,(b=a∨H b=some (.own a))→h.get? b=some u→h'.get? b=some u)
  (ho:∀b,H b=some (.own a)→H' b=some (.own a)) (ht:∀b xs,H b=some (.tup xs)→H' b=some (.tup xs)):ObjOk P w H' h' a o:=by
 induction o with
 |lst xs=>obtain⟨z,its,n,r,e⟩:=x;exact⟨z,its,n,r,k _ _ (.inl rfl) e⟩
 |tup xs=>obtain⟨z,its,r,ob,e,c⟩:=x;exact⟨z,its,r,ob,k _ _ (.inl rfl) e,c⟩
 |dK kvs=>obtain⟨z,y,vs,r,ob,es,ep,e,c⟩:=x;exact⟨z,y,vs,r,ob,es,ep,k _ _ (.inl rfl) e,c⟩
 |dT kvs=>
  obtain⟨z,y,xs,r,ob,es,ep,e,c⟩:=x
  exact⟨z,y,xs,Paired.mapP r fun p q z=>⟨z.1,ht _ _ z.2.1,z.2.2⟩,ob,es,ep,k _ _ (.inl rfl) e,c⟩
 |set S n=>obtain⟨ob,es,ep,t,e,c⟩:=x;exact⟨ob,es,ep,t,k _ _ (.inl rfl) e,c⟩
 |ins C dx fs=>
  obtain⟨d,z,ne,e,mA,⟨od,es,ep,e2,c⟩,r⟩:=x
  exact⟨ho _ d,z,ne,k _ _ (.inl rfl) e,mA,⟨od,es,ep,k _ _ (.inr d) e2,c⟩,r⟩
 |own y=>obtain⟨ob,e⟩:=x;exact⟨ob,k _ _ (.inl rfl) e⟩
 |xd fs=>obtain⟨mA,⟨od,es,ep,e,c⟩,r⟩:=x;exact⟨mA,⟨od,es,ep,k _ _ (.inl rfl) e,c⟩,r⟩
 |rng lo hi=>obtain⟨t,u,v,e⟩:=x;exact⟨t,u,v,k _ _ (.inl rfl) e⟩
 |frz ob u ih=>obtain⟨e,q⟩:=x;exact⟨k _ _ (.inl rfl) e,ih q⟩
 |tbl ps=>
  have e:h.get? a=some { cls:=.none,data:=.fields ps }:=x
  show h'.get? a=some { cls:=.none,data:=.fields ps }
  exact k a _ (.inl rfl) e
 |met f y=>
  have e:h.get? a=some (methodObj (.ref f) (.ref y)):=x
  show h'.get? a=some (methodObj (.ref f) (.ref y))
  exact k a _ (.inl rfl) e
 |ext φ=>obtain⟨p,⟨o,e⟩,st⟩:=x;exact⟨st _ _ p fun o q=>k _ _ (.inl rfl) q,⟨o,k _ _ (.inl rfl) e⟩,st⟩
theorem HOk.lt(x:HOk P w H h)(e:H a=some o):a<h.objs.size:=(x a o e).lt
theorem HOk.fresh(x:HOk P w H h)(e:h.objs.size≤a):H a=none:=by
 cases q:H a with
 |none=>rfl
 |some u=>exact absurd (lt_of_lt_of_le (x.lt q) e) (lt_irrefl _)
theorem HOk.kept(x:HOk P w H h)(k:∀b u,h.get? b=some u→h'.get? b=some u):HOk P w H h':=fun a o e=>
 (x a o e).stay (fun b u _ q=>k b u q) (fun _ q=>q) fun _ _ q=>q
theorem HOk.laid(x:HOk P w H h)(k:∀b u,h.get? b=some u→h'.get? b=some u)(hp:h.objs.size≤a)(new:ObjOk P w (upd H a o) h' a o):HOk P w (upd H a o) h':=fun b u e=>by
 have hn:=x.fresh hp
 by_cases hb:b=a
 ·subst hb;rw[zn] at e;cases e;exact new
 ·rw[zi hb] at e
  exact(x b u e).stay (fun c v _ q=>k c v q) (fun c q=>by rw[zi (zF q hn)];exact q) fun c xs q=>by rw[zi (zF q hn)];exact q
end
noncomputable def Rd(H:Hp)(a:Addr)(u:HO):Prop:=H a=some u∨∃o,H a=some (.frz o u)
theorem Rd.ok{P:Program}{w:World}{H:Hp}{h:Heap}{a:Addr}{u:HO}(r:Rd H a u)(x:HOk P w H h):ObjOk P w H h a u:=by
 rcases r with r|⟨o,r⟩
 ·exact x a u r
 ·obtain⟨_,q⟩:=x a _ r
  exact q
noncomputable def Mut:Option HO→Prop
 | some (.lst _)=>True
 | some (.dK _)=>True
 | some (.dT _)=>True
 | some (.set _ _)=>True
 | some (.ins _ _ _)=>True
 | some (.ext _)=>True
 |_=>False
section
variable{P:Program}{w:World}{H:Hp}{h h':Heap}{x e:Addr}{o':HO}
theorem HOk.write(ok:HOk P w H h)(mu:Mut (H x))(he:e=x∨H e=some (.own x))(k:∀b u,b≠e→h.get? b=some u→h'.get? b=some u)(heo:∃u,h'.get? e=some u)
  (new:ObjOk P w (upd H x o') h' x o'):HOk P w (upd H x o') h':=fun b u q=>by
 have nown:∀c y,H c=some (.own y)→c≠x:=fun c y r z=>by subst z;rw[r] at mu;exact mu
 have ntup:∀c xs,H c=some (.tup xs)→c≠x:=fun c xs r z=>by subst z;rw[r] at mu;exact mu
 by_cases hb:b=x
 ·subst hb;rw[zn] at q;cases q;exact new
 ·rw[zi hb] at q
  by_cases hbe:b=e
  ·have q':H b=some (.own x):=by
    rcases he with z|z
    ·exact absurd (hbe.trans z) hb
    ·rw[hbe];exact z
   rw[q] at q';cases q'
   obtain⟨v,hv⟩:=heo
   exact⟨v,by rw[hbe];exact hv⟩
  ·refine(ok b u q).stay (fun c v hc r=>k c v ?_ r) (fun c r=>by rw[zi (nown c b r)];exact r) fun c xs r=>by rw[zi (ntup c xs r)];exact r
   rcases hc with rfl|hc
   ·exact hbe
   ·rintro rfl
    rcases he with z|z
    ·exact nown c b hc z
    ·rw[hc] at z;cases z;exact hb rfl
end
structure Un(fs ex:List Addr)(H H':Hp)(h h':Heap):Prop where
 keep:∀b o,h.get? b=some o→H b=none→b∉fs→b∉ex→h'.get? b=some o
 slot:∀b o,h.get? b=some o→H b=none→b∈fs→b∉ex→∃sl,h'.get? b=some { o with slots:=sl }
 free:∀b o,h.get? b=some o→H b=none→b∉ex→H' b=none
 there:∀b o,h.get? b=some o→b∉ex→∃o',h'.get? b=some o'
 tups:∀b xs,H b=some (.tup xs)→H' b=some (.tup xs)
 frzs:∀b o u,H b=some (.frz o u)→H' b=some (.frz o u)
 tbls:∀b ps,H b=some (.tbl ps)→∃more,H' b=some (.tbl (ps++more))
section
variable{fs fs' ex ex':List Addr}{H H1 H2:Hp}{h h1 h2 h':Heap}{a x e:Addr}{o:HO}
theorem Un.any(u:Un fs ex H H1 h h1){b:Addr}{ob:Obj}(q:h.get? b=some ob)(n:H b=none)(hx:b∉ex):∃sl,h1.get? b=some { ob with slots:=sl }:=by
 by_cases hb:b∈fs
 ·exact u.slot b ob q n hb hx
 ·exact⟨ob.slots,u.keep b ob q n hb hx⟩
theorem Un.kept(k:∀b u,h.get? b=some u→h'.get? b=some u):Un fs ex H H h h':=
 ⟨fun b ob q _ _ _=>k b ob q,fun b ob q _ _ _=>⟨ob.slots,k b ob q⟩,fun _ _ _ n _=>n,fun b ob q _=>⟨ob,k b ob q⟩,fun _ _ q=>q,fun _ _ _ q=>q,fun _ ps q=>⟨#[],by rw[q];simp⟩⟩
theorem Un.refl:Un fs ex H H h h:=Un.kept fun _ _ q=>q
theorem Un.laid(k:∀b u,h.get? b=some u→h'.get? b=some u)(hp:h.objs.size≤a)(hn:H a=none):Un fs ex H (upd H a o) h h' where
 keep:=fun b u q _ _ _=>k b u q
 slot:=fun b u q _ _ _=>⟨u.slots,k b u q⟩
 free:=fun b u q n _=>by rw[zi (ne_of_lt (lt_of_lt_of_le (Heap.lt_size q) hp))];exact n
 there:=fun b u q _=>⟨u,k b u q⟩
 tups:=fun b xs q=>by rw[zi (zF q hn)];exact q
 frzs:=fun b u xs q=>by rw[zi (zF q hn)];exact q
 tbls:=fun b ps q=>⟨#[],by rw[zi (zF q hn),q];simp⟩
theorem Un.write(mu:Mut (H x))(he:e=x∨H e=some (.own x))(k:∀b u,b≠e→h.get? b=some u→h'.get? b=some u)(heo:∃u,h'.get? e=some u):Un fs ex H (upd H x o) h h':=by
 have hx:∀b,H b=none→b≠x:=fun b n z=>by subst z;rw[n] at mu;exact mu
 have hb:∀b,H b=none→b≠e:=fun b n z=>by
  subst z
  rcases he with r|r
  ·exact hx b n r
  ·rw[n] at r;cases r
 have hm:∀b u,H b=some u→¬ Mut (some u)→b≠x:=fun b u q nm z=>by subst z;rw[q] at mu;exact nm mu
 refine⟨fun b u q n _ _=>k b u (hb b n) q,fun b u q n _ _=>⟨u.slots,k b u (hb b n) q⟩,fun b u q n _=>by rw[zi (hx b n)];exact n,fun b u q _=>?_,
  fun b xs q=>by rw[zi (hm b _ q fun z=>z)];exact q,fun b u xs q=>by rw[zi (hm b _ q fun z=>z)];exact q,fun b ps q=>⟨#[],by rw[zi (hm b _ q fun z=>z),q];simp⟩⟩
 by_cases hbe:b=e
 ·subst hbe;exact heo
 ·exact⟨u,k b u hbe q⟩
end
noncomputable def trk(h:Heap)(H:Hp):List Addr:=(List.range h.objs.size).filter fun a=>(H a).isSome
noncomputable def Xr(h:Heap)(H:Hp):Heap:=PySem.W.hideAll h (trk h H)
theorem Qv(h:Heap)(H:Hp):(Xr h H).objs.size=h.objs.size:=PySem.W.hideAll_size _ _
theorem Mj{h:Heap}{H:Hp}{b:Addr}{o:Obj}(e:h.get? b=some o)(n:H b=none):(Xr h H).get? b=some o:=
 PySem.W.hideAll_get _ e fun hm=>by
  have q:(H b).isSome=true:=(mem_filter.mp hm).2
  rw[n] at q;simp at q
theorem TY{h:Heap}{H:Hp}{b:Addr}{o:Obj}(e:(Xr h H).get? b=some o):h.get? b=some o∧H b=none:=by
 have e':h.get? b=some o:=PySem.W.of_hideAll (trk h H) e
 refine⟨e',?_⟩
 cases q:H b with
 |none=>rfl
 |some x=>
  have hm:b∈trk h H:=mem_filter.mpr ⟨mem_range.mpr (Heap.lt_size e'),by simp[q]⟩
  have z:(Xr h H).get? b=none:=PySem.W.hideAll_none (trk h H) hm
  rw[z] at e;cases e
noncomputable def LL(g h:Heap)(L:Addr):List (Addr×Obj):=(List.range h.objs.size).filterMap fun a=>if a=L∨(g.get? a).isSome=true then none else (h.get? a).map fun o=>(a,o)
noncomputable def rest(g h:Heap)(L d:Addr):List (Addr×Obj):=(LL g h L).filter fun p=>decide (p.1≠d)
structure Mod(K:Frag)(mg:Str→Option Value)(base:Heap):Prop where
 kin:K.In base
 glob:base.Ns mainGlobals mg
 blt:∃mb,base.Ns builtinsNs mb∧∀x:Str,x ≠ "__name__" → mb x=bootBuiltins x
 nolimit:base.NoLimit
structure Cx where
 prog:Program
 w:World
 K:Frag
 mg:Str→Option Value
 base:Heap
 A:Around
 N:List Str
 s₀:Shared
 H₀:Hp
 env:Env
 outer:List Env
 stack:List Env
 ex:List Addr
 fn:Str→Bool
 calm:Bool
 pn:List (Addr×Obj)
 xe:Value→Shared→Prop
noncomputable def frs(l:List Env):List Addr:=l.filterMap (·.frame)
noncomputable abbrev Cx.fs(X:Cx):List Addr:=frs X.outer
noncomputable def Vis(sc:Scope)(x:Str):Prop:=sc.names.lookup x=some .local∨sc.names.lookup x=some .cell∨sc.names.lookup x=some .free
noncomputable def Loc(sc:Scope)(x:Str):Prop:=sc.names.lookup x=some .local∨sc.names.lookup x=some .cell
noncomputable def Look(env:Env)(h:Heap)(m:Str→Option Value)(x:Str)(u:Value):Prop:=
 (env.kindOf x=some .local∧m x=some u)∨((env.kindOf x=some .cell∨env.kindOf x=some .free)∧∃c,env.cells.lookup x=some c∧h.IsCell c (some u))
structure Cx.Ok(X:Cx):Prop where
 mod:Mod X.K X.mg X.base
 kind:X.env.scope.kind=.function
 glob:X.env.globals=mainGlobals
 blt:X.env.builtins=builtinsNs
 above:X.s₀.heap.objs.size≤X.env.locals
 inj:∀x y c,X.env.cells.lookup x=some c→X.env.cells.lookup y=some c→x=y
 has:∀x,(X.env.kindOf x=some .cell∨X.env.kindOf x=some .free)→∃c,X.env.cells.lookup x=some c
 cab:∀x c,X.fn x=true→X.env.cells.lookup x=some c→X.s₀.heap.objs.size≤c
 hd:X.calm=true→X.A.handled=none
 frames:X.A.frames=some X.stack
 stk:X.stack=X.outer∨(X.stack=X.env::X.outer∧X.env.frame=some X.env.locals)
 exf:∀b∈X.ex,b≠X.env.locals∧∀x c,X.env.cells.lookup x=some c→c≠b
 bs:∀b o,X.base.get? b=some o→X.s₀.heap.get? b=some o∧X.H₀ b=none
 bsz:X.base.objs.size≤X.s₀.heap.objs.size
 noex:∀b o,X.base.get? b=some o→b∉X.ex
 exfs:∀b∈X.ex,b∉X.fs
 funs:X.s₀.heap.FunFrames X.base X.outer
 frf:∀b∈X.fs,X.H₀ b=none
structure Inv(X:Cx)(pins:List (Addr×Obj))(σ:List (Option V))(H:Hp)(s:Shared):Prop where
 ok:X.Ok
 os:s.os=X.s₀.os
 bare:AllBare s.gens
 base:Un X.fs X.ex X.H₀ H X.s₀.heap s.heap
 loc:∃m,s.heap.Ns X.env.locals m∧∀(i:Nat) (x:Str) (v:V),X.N[i]?=some x→σ[i]?=some (some v)→Vis X.env.scope x→∃u,RelV v u∧Look X.env s.heap m x u
 cell:∀x c,X.env.cells.lookup x=some c→∃v,s.heap.IsCell c v
 free:H X.env.locals=none
 freeC:∀x c,X.env.cells.lookup x=some c→H c=none
 pin:∀p∈X.pn++pins,s.heap.get? p.1=some p.2∧H p.1=none∧p.1≠X.env.locals∧p.1∉X.fs∧∀v,p.2.data≠.cell v
 hok:HOk X.prog X.w H s.heap
 len:σ.length=X.N.length
section
variable{X:Cx}{pins:List (Addr×Obj)}{σ:List (Option V)}{H H':Hp}{s:Shared}{h':Heap}
theorem Cx.Ok.nofr(ok:X.Ok){b:Addr}{o:Obj}(e:X.base.get? b=some o):b∉X.fs:=fun hb=>by
 have:=(ok.funs.mem hb).1
 rw[e] at this;cases this
theorem Inv.bs(I:Inv X pins σ H s):∀b o,X.base.get? b=some o→s.heap.get? b=some o∧H b=none:=fun b o e=>
 ⟨I.base.keep b o (I.ok.bs b o e).1 (I.ok.bs b o e).2 (I.ok.nofr e) (I.ok.noex b o e),I.base.free b o (I.ok.bs b o e).1 (I.ok.bs b o e).2 (I.ok.noex b o e)⟩
theorem Inv.bk(I:Inv X pins σ H s):∀b o,X.base.get? b=some o→s.heap.get? b=some o:=fun b o e=>(I.bs b o e).1
theorem Inv.mod(I:Inv X pins σ H s):Mod X.K X.mg X.base:=I.ok.mod
theorem Inv.kIn(I:Inv X pins σ H s):X.K.In s.heap:=I.ok.mod.kin.keeps I.bk
theorem Inv.lt(I:Inv X pins σ H s):X.env.locals<s.heap.objs.size:=let ⟨_,hn,_⟩:=I.loc;hn.lt
theorem Inv.sz(I:Inv X pins σ H s):X.s₀.heap.objs.size≤s.heap.objs.size:=le_trans I.ok.above (le_of_lt I.lt)
theorem Inv.nofs(I:Inv X pins σ H s){a:Addr}(h:s.heap.objs.size≤a):a∉X.fs:=fun hb=>by
 obtain⟨_,o,ho,_⟩:=I.ok.funs.mem hb
 exact absurd (lt_of_lt_of_le (Heap.lt_size ho) (le_trans I.sz h)) (lt_irrefl _)
theorem Inv.cne(I:Inv X pins σ H s):∀x c,X.env.cells.lookup x=some c→c≠X.env.locals:=fun x c e z=>by
 obtain⟨v,o,ho,hd⟩:=I.cell x c e
 obtain⟨m,⟨o',es,ep,ho',hd',_⟩,_⟩:=I.loc
 rw[z,ho'] at ho;cases ho;rw[hd'] at hd;cases hd
theorem Inv.funs(I:Inv X pins σ H s):s.heap.FunFrames X.base X.outer:=by
 have all:∀(l:List Env),(∀b∈frs l,b∈X.fs)→X.s₀.heap.FunFrames X.base l→s.heap.FunFrames X.base l:=by
  intro l
  induction l with
  |nil=>intro _ _;trivial
  |cons env r ih=>
   intro hs hl
   obtain⟨hk,⟨L,o,hf,hn,ho,hd⟩,hr⟩:=hl
   have hL:L∈X.fs:=hs L (by unfold frs;rw[List.filterMap_cons,hf];exact mem_cons_self)
   obtain⟨sl,e⟩:=I.base.slot L o ho (I.ok.frf L hL) hL fun z=>I.ok.exfs L z hL
   exact⟨hk,⟨L,_,hf,hn,e,hd⟩,ih (fun b hb=>hs b (by unfold frs;rw[List.filterMap_cons,hf];exact mem_cons_of_mem _ hb)) hr⟩
 exact all X.outer (fun _ hb=>hb) I.ok.funs
theorem Inv.stack(I:Inv X pins σ H s):s.heap.FunFrames X.base X.stack:=by
 rcases I.ok.stk with e|⟨e,hf⟩
 ·rw[e];exact I.funs
 ·rw[e]
  obtain⟨m,hn,_⟩:=I.loc
  refine .cons (by rw[I.ok.kind];decide) hf hn ?_ I.funs
  exact Heap.get?_none_of_le (le_trans I.ok.bsz I.ok.above)
theorem Inv.stkSub(I:Inv X pins σ H s):∀b∈frs X.stack,b∈X.env.locals::X.fs:=fun b hb=>by
 rcases I.ok.stk with e|⟨e,hf⟩
 ·rw[e] at hb;exact mem_cons_of_mem _ hb
 ·rw[e] at hb
  unfold frs at hb
  rw[List.filterMap_cons,hf] at hb
  exact hb
theorem Inv.stkFree(I:Inv X pins σ H s):∀b∈frs X.stack,H b=none:=fun b hb=>by
 rcases mem_cons.mp (I.stkSub b hb) with e|hb
 ·rw[e];exact I.free
 ·obtain⟨_,o,ho,_⟩:=I.ok.funs.mem hb
  exact I.base.free b o ho (I.ok.frf b hb) fun z=>I.ok.exfs b z hb
theorem Inv.step{g':Array GenState}{t':Nat}{d':Drawn}{ch:List Addr}(I:Inv X pins σ H s)
  (hch:∀b∈ch,(b∈X.ex∨X.s₀.heap.objs.size≤b)∧b≠X.env.locals∧(∀x c,X.env.cells.lookup x=some c→c≠b)∧∀p∈X.pn++pins,p.1≠b)
  (keep:∀b o,b≠X.env.locals→b∉X.fs→b∉ch→s.heap.get? b=some o→H b=none→h'.get? b=some o)
  (slot:∀b o,b≠X.env.locals→b∈X.fs→b∉ch→s.heap.get? b=some o→H b=none→∃sl,h'.get? b=some { o with slots:=sl }) (free:∀b o,b∉ch→s.heap.get? b=some o→H b=none→H' b=none)
  (there:∀b o,b∉ch→s.heap.get? b=some o→∃o',h'.get? b=some o')
  (tups:∀b xs,H b=some (.tup xs)→H' b=some (.tup xs)) (frzs:∀b o u,H b=some (.frz o u)→H' b=some (.frz o u)) (tbls:∀b ps,H b=some (.tbl ps)→∃more,H' b=some (.tbl (ps++more)))
  (ns:∀m,s.heap.Ns X.env.locals m→h'.Ns X.env.locals m) (hok:HOk X.prog X.w H' h') (hg:AllBare g') :
  Inv X pins σ H' { s with heap:=h',gens:=g',drawn:=d',toks:=t' }:=by
 have neL:∀b o,X.s₀.heap.get? b=some o→b≠X.env.locals:=fun b o e=>ne_of_lt (lt_of_lt_of_le (Heap.lt_size e) I.ok.above)
 have neC:∀b o,X.s₀.heap.get? b=some o→b∉X.ex→b∉ch:=fun b o e hx hb=>by
  rcases (hch b hb).1 with z|z
  ·exact hx z
  ·exact absurd (lt_of_lt_of_le (Heap.lt_size e) z) (lt_irrefl _)
 have cellK:∀x c,X.env.cells.lookup x=some c→∀v,s.heap.IsCell c v→h'.IsCell c v:=fun x c e v z_=>by
  obtain⟨o,ho,hd⟩:=z_
  have nch:c∉ch:=fun z=>(hch c z).2.2.1 x c e rfl
  by_cases hc:c∈X.fs
  ·obtain⟨sl,q⟩:=slot c o (I.cne x c e) hc nch ho (I.freeC x c e)
   exact⟨_,q,hd⟩
  ·exact⟨o,keep c o (I.cne x c e) hc nch ho (I.freeC x c e),hd⟩
 refine⟨I.ok,I.os,hg,⟨fun b o e n hb hx=>?_,fun b o e n hb hx=>?_,fun b o e n hx=>?_,fun b o e hx=>?_,fun b xs e=>tups b xs (I.base.tups b xs e),fun b o xs e=>frzs b o xs (I.base.frzs b o xs e),fun b ps e=>?_⟩,?_,fun x c e=>?_,?_,fun x c e=>?_,fun p hp=>?_,hok,I.len⟩
 ·exact keep b o (neL b o e) hb (neC b o e hx) (I.base.keep b o e n hb hx) (I.base.free b o e n hx)
 ·obtain⟨sl,e1⟩:=I.base.slot b o e n hb hx
  obtain⟨sl',e2⟩:=slot b _ (neL b o e) hb (neC b o e hx) e1 (I.base.free b o e n hx)
  exact⟨sl',e2⟩
 ·obtain⟨o',e1⟩:=I.base.there b o e hx
  exact free b o' (neC b o e hx) e1 (I.base.free b o e n hx)
 ·obtain⟨o',e1⟩:=I.base.there b o e hx
  exact there b o' (neC b o e hx) e1
 ·obtain⟨m1,e1⟩:=I.base.tbls b ps e
  obtain⟨m2,e2⟩:=tbls b _ e1
  exact⟨m1++m2,by rw[e2,Array.append_assoc]⟩
 ·obtain⟨m,hn,hl⟩:=I.loc
  refine⟨m,ns m hn,fun i x v e1 e2 e3=>?_⟩
  obtain⟨u,r,l⟩:=hl i x v e1 e2 e3
  refine⟨u,r,?_⟩
  rcases l with l|⟨k,c,e,z⟩
  ·exact .inl l
  ·exact .inr ⟨k,c,e,cellK x c e _ z⟩
 ·obtain⟨v,z⟩:=I.cell x c e
  exact⟨v,cellK x c e v z⟩
 ·obtain⟨m,⟨o,_,_,ho,_⟩,_⟩:=I.loc
  exact free _ o (fun z=>(hch _ z).2.1 rfl) ho I.free
 ·obtain⟨v,o,ho,hd⟩:=I.cell x c e
  exact free c o (fun z=>(hch c z).2.2.1 x c e rfl) ho (I.freeC x c e)
 ·obtain⟨e,n,ne,nf,d⟩:=I.pin p hp
  have nch:p.1∉ch:=fun z=>(hch p.1 z).2.2.2 p hp rfl
  exact⟨keep p.1 p.2 ne nf nch e n,free p.1 p.2 nch e n,ne,nf,d⟩
theorem Inv.un{t':Nat}(I:Inv X pins σ H s)(u:Un X.fs [] H H' s.heap h')(hok:HOk X.prog X.w H' h'):Inv X pins σ H' { s with heap:=h',toks:=t' }:=by
 obtain⟨m,⟨o,es,ep,ho,r⟩,_⟩:=id I.loc
 obtain⟨sl,hL⟩:=u.any ho I.free (by simp)
 exact I.step (g':=s.gens) (d':=s.drawn) (ch:=[]) (fun _ z=>nomatch z) (fun b o _ hb _ e n=>u.keep b o e n hb (by simp)) (fun b o _ hb _ e n=>u.slot b o e n hb (by simp)) (fun b o _ e n=>u.free b o e n (by simp)) (fun b o _ e=>u.there b o e (by simp)) u.tups u.frzs u.tbls (fun m' hm=>by
  obtain⟨o',es',ep',ho',r'⟩:=hm
  rw[ho] at ho';cases ho'
  exact⟨_,es',ep',hL,r'⟩) hok I.bare
theorem Inv.call{g':Array GenState}{t':Nat}{d':Drawn}{ch:List Addr}(I:Inv X pins σ H s)(u:Un (frs X.stack) ch H H' s.heap h')(hok:HOk X.prog X.w H' h')(hg:AllBare g')
  (hch:∀b∈ch,(b∈X.ex∨X.s₀.heap.objs.size≤b)∧b≠X.env.locals∧(∀x c,X.env.cells.lookup x=some c→c≠b)∧∀p∈X.pn++pins,p.1≠b) :
  Inv X pins σ H' { s with heap:=h',gens:=g',drawn:=d',toks:=t' }:=by
 obtain⟨m,⟨o,es,ep,ho,r⟩,_⟩:=id I.loc
 obtain⟨sl,hL⟩:=u.any ho I.free fun z=>(hch _ z).2.1 rfl
 exact I.step (ch:=ch) hch (fun b o hL hb hc e n=>u.keep b o e n (fun z=>(mem_cons.mp (I.stkSub b z)).elim hL hb) hc) (fun b o _ _ hc e n=>u.any e n hc) (fun b o hc e n=>u.free b o e n hc) (fun b o hc e=>u.there b o e hc) u.tups u.frzs u.tbls (fun m' hm=>by
  obtain⟨o',es',ep',ho',r'⟩:=hm
  rw[ho] at ho';cases ho'
  exact⟨_,es',ep',hL,r'⟩) hok hg
theorem Inv.turned{t':Nat}{it:Addr}(I:Inv X pins σ H s)(k:∀b o,b≠it→s.heap.get? b=some o→h'.get? b=some o)(hn:H it=none)(hL:it≠X.env.locals)
  (h1:it∈X.ex∨X.s₀.heap.objs.size≤it) (h2:∀x c,X.env.cells.lookup x=some c→c≠it) (h3:∀p∈X.pn++pins,p.1≠it):Inv X pins σ H { s with heap:=h',toks:=t' }:=by
 have nit:∀b u,H b=some u→b≠it:=fun b u e z=>by rw[z,hn] at e;cases e
 refine I.step (g':=s.gens) (d':=s.drawn) (ch:=[it]) (fun b hb=>?_) (fun b o _ _ hc e _=>k b o (fun z=>hc (by simp[z])) e) (fun b o _ _ hc e _=>⟨o.slots,k b o (fun z=>hc (by simp[z])) e⟩) (fun _ _ _ _ n=>n)
  (fun b o hc e=>⟨o,k b o (fun z=>hc (by simp[z])) e⟩) (fun _ _ e=>e) (fun _ _ _ e=>e) (fun b ps e=>⟨#[],by rw[e];simp⟩) (fun m hm=>?_) (fun b u e=>?_) I.bare
 ·have e:b=it:=by simpa using hb
  subst e
  exact⟨h1,hL,h2,h3⟩
 ·obtain⟨o,es,ep,ho,r⟩:=hm
  exact⟨o,es,ep,k _ o (Ne.symm hL) ho,r⟩
 ·refine(I.hok b u e).stay (fun c v hc q=>k c v ?_ q) (fun _ q=>q) fun _ _ q=>q
  rcases hc with z|z
  ·rw[z];exact nit b u e
  ·exact nit c _ z
theorem Inv.tok(I:Inv X pins σ H s)(t:Nat):Inv X pins σ H { s with toks:=t }:=I.un (h':=s.heap) (t':=t) Un.refl I.hok
theorem Inv.kept{t':Nat}(I:Inv X pins σ H s)(k:∀b u,s.heap.get? b=some u→h'.get? b=some u):Inv X pins σ H { s with heap:=h',toks:=t' }:=I.un (Un.kept k) (I.hok.kept k)
theorem Inv.laid{a:Addr}{o:HO}{t':Nat}(I:Inv X pins σ H s)(k:∀b u,s.heap.get? b=some u→h'.get? b=some u)(hp:s.heap.objs.size≤a)(new:ObjOk X.prog X.w (upd H a o) h' a o) :
  Inv X pins σ (upd H a o) { s with heap:=h',toks:=t' }:=I.un (Un.laid k hp (I.hok.fresh hp)) (I.hok.laid k hp new)
theorem Inv.write{x e:Addr}{o:HO}{t':Nat}(I:Inv X pins σ H s)(mu:Mut (H x))(he:e=x∨H e=some (.own x))(k:∀b u,b≠e→s.heap.get? b=some u→h'.get? b=some u)(heo:∃u,h'.get? e=some u)
  (new:ObjOk X.prog X.w (upd H x o) h' x o):Inv X pins σ (upd H x o) { s with heap:=h',toks:=t' }:=I.un (Un.write mu he k heo) (I.hok.write mu he k heo new)
theorem Inv.pins_of{pins':List (Addr×Obj)}(I:Inv X pins σ H s)(h:∀p∈pins',s.heap.get? p.1=some p.2∧H p.1=none∧p.1≠X.env.locals∧p.1∉X.fs∧∀v,p.2.data≠.cell v):Inv X pins' σ H s:=
 ⟨I.ok,I.os,I.bare,I.base,I.loc,I.cell,I.free,I.freeC,fun p hp=>(mem_append.mp hp).elim (fun z=>I.pin p (mem_append_left _ z)) (h p),I.hok,I.len⟩
theorem Vn{N:List Str}(hN:N.Nodup){i j:Nat}{x:Str}(a:N[i]?=some x)(b:N[j]?=some x):i=j:=by
 obtain⟨h1,e1⟩:=List.getElem?_eq_some_iff.mp a
 obtain⟨h2,e2⟩:=List.getElem?_eq_some_iff.mp b
 exact(List.getElem_inj hN).mp (e1.trans e2.symm)
theorem XD{M:Model}{A:Around}{E:Value→Shared→Prop}{i:Nat}{x:Str}{v:V}{u:Value}{Q:Unit→Shared→Prop}(I:Inv X pins σ H s)(hN:X.N.Nodup)(hi:X.N[i]?=some x)(hx:Loc X.env.scope x)(r:RelV v u)
  (h:∀s',Inv X pins (σ.set i (some v)) H s'→(∃a,Heap.SameBut a s.heap s'.heap∧(a=X.env.locals∨X.env.cells.lookup x=some a))→Q () s') (hf:X.fn x=true∨X.env.scope.names.lookup x=some .local:=by first|exact .inl rfl|exact .inr rfl|assumption):wpAny M A (storeName X.env x u) Q E s:=by
 obtain⟨m,hn,hl⟩:=id I.loc
 have hcls:(X.env.scope.kind == .class||(X.env.scope.kind == .module&&X.env.locals != X.env.globals))=false:=by rw[I.ok.kind];rfl
 have hiσ:i<σ.length:=by rw[I.len];exact(List.getElem?_eq_some_iff.mp hi).1
 have cne:=I.cne
 have tracked:∀{a:Addr} {h':Heap},(∃o,s.heap.get? a=some o∧H a=none)→Heap.SameBut a s.heap h'→HOk X.prog X.w H h':=fun {a h'} ha hs b ob e=>by
  obtain⟨_,_,hfree⟩:=ha
  refine(I.hok b ob e).stay (fun c w' hc q=>(hs.2 c ?_).trans q) (fun _ q=>q) fun _ _ q=>q
  rintro rfl
  rcases hc with rfl|hc
  ·rw[hfree] at e;cases e
  ·rw[hfree] at hc;cases hc
 rcases hx with hk|hk
 ·refine wpAny_storeName_local hk hn (fun h' hn' hs=>?_) hcls
  obtain⟨oL,_,_,hoL,_⟩:=id hn
  refine h _ ⟨I.ok,I.os,I.bare,⟨fun b o e n hb hx=>?_,fun b o e n hb hx=>?_,I.base.free,fun b o e hx=>?_,I.base.tups,I.base.frzs,I.base.tbls⟩,⟨_,hn',fun j y v' e1 e2 e3=>?_⟩,fun y c e=>?_,I.free,I.freeC,fun p hp=>?_,tracked ⟨oL,hoL,I.free⟩ hs,by simpa using I.len⟩ ⟨_,hs,.inl rfl⟩
  ·exact(hs.2 b (ne_of_lt (lt_of_lt_of_le (Heap.lt_size e) I.ok.above))).trans (I.base.keep b o e n hb hx)
  ·obtain⟨sl,e1⟩:=I.base.slot b o e n hb hx
   exact⟨sl,(hs.2 b (ne_of_lt (lt_of_lt_of_le (Heap.lt_size e) I.ok.above))).trans e1⟩
  ·obtain⟨o',e1⟩:=I.base.there b o e hx
   exact⟨o',(hs.2 b (ne_of_lt (lt_of_lt_of_le (Heap.lt_size e) I.ok.above))).trans e1⟩
  ·by_cases hj:j=i
   ·subst hj
    rw[hi] at e1;cases e1
    rw[getElem?_set_self hiσ] at e2
    cases e2
    exact⟨u,r,.inl ⟨hk,by simp⟩⟩
   ·rw[getElem?_set_ne (Ne.symm hj)] at e2
    obtain⟨u',r',q⟩:=hl j y v' e1 e2 e3
    refine⟨u',r',?_⟩
    rcases q with ⟨k,e⟩|⟨k,c,e,z⟩
    ·refine .inl ⟨k,?_⟩
     have:y≠x:=fun e=>hj (Vn hN e1 (e ▸ hi))
     simp[this,e]
    ·exact .inr ⟨k,c,e,z.sameBut hs (cne y c e)⟩
  ·obtain⟨w',z⟩:=I.cell y c e
   exact⟨w',z.sameBut hs (cne y c e)⟩
  ·obtain⟨e,n,ne,nf,d⟩:=I.pin p hp
   exact⟨(hs.2 p.1 ne).trans e,n,ne,nf,d⟩
 ·have hfn:X.fn x=true:=by
   rcases hf with z|z
   ·exact z
   ·rw[z] at hk;cases hk
  obtain⟨c,hc⟩:=I.ok.has x (.inl hk)
  obtain⟨w',z⟩:=I.cell x c hc
  refine wpAny_storeName_cell I.ok.kind hk hc z (fun h' hc' hs=>?_)
  obtain⟨oc,hoc,hocd⟩:=id z
  refine h { s with heap:=h' } ⟨I.ok,I.os,I.bare,⟨fun b o e n hb hx=>?_,fun b o e n hb hx=>?_,I.base.free,fun b o e hx=>?_,I.base.tups,I.base.frzs,I.base.tbls⟩,⟨m,hn.sameBut hs (Ne.symm (cne x c hc)),fun j y v' e1 e2 e3=>?_⟩,fun y c' e=>?_,I.free,I.freeC,fun p hp=>?_,tracked ⟨oc,hoc,I.freeC x c hc⟩ hs,by simpa using I.len⟩ ⟨c,hs,.inr hc⟩
  ·exact(hs.2 b (ne_of_lt (lt_of_lt_of_le (Heap.lt_size e) (I.ok.cab x c hfn hc)))).trans (I.base.keep b o e n hb hx)
  ·obtain⟨sl,e1⟩:=I.base.slot b o e n hb hx
   exact⟨sl,(hs.2 b (ne_of_lt (lt_of_lt_of_le (Heap.lt_size e) (I.ok.cab x c hfn hc)))).trans e1⟩
  ·obtain⟨o',e1⟩:=I.base.there b o e hx
   exact⟨o',(hs.2 b (ne_of_lt (lt_of_lt_of_le (Heap.lt_size e) (I.ok.cab x c hfn hc)))).trans e1⟩
  ·by_cases hj:j=i
   ·subst hj
    rw[hi] at e1;cases e1
    rw[getElem?_set_self hiσ] at e2
    cases e2
    exact⟨u,r,.inr ⟨.inl hk,c,hc,hc'⟩⟩
   ·rw[getElem?_set_ne (Ne.symm hj)] at e2
    obtain⟨u',r',q⟩:=hl j y v' e1 e2 e3
    refine⟨u',r',?_⟩
    rcases q with q|⟨k,c',e,z'⟩
    ·exact .inl q
    ·refine .inr ⟨k,c',e,z'.sameBut hs ?_⟩
     rintro rfl
     exact hj (Vn hN e1 (I.ok.inj _ _ _ e hc ▸ hi))
  ·by_cases hcc:c'=c
   ·subst hcc;exact⟨_,hc'⟩
   ·obtain⟨w2,z2⟩:=I.cell y c' e
    exact⟨w2,z2.sameBut hs hcc⟩
  ·obtain⟨e,n,ne,nf,d⟩:=I.pin p hp
   refine⟨(hs.2 p.1 ?_).trans e,n,ne,nf,d⟩
   intro q
   rw[q,hoc] at e
   have q':oc=p.2:=Option.some.inj e
   exact d w' (by rw[← q'];exact hocd)
theorem WY{M:Model}{A:Around}{E:Value→Shared→Prop}{i:Nat}{x:Str}{v:V}{u:Value}{Q:Unit→Shared→Prop}(I:Inv X pins σ H s)(hN:X.N.Nodup)(hi:X.N[i]?=some x)(hx:Loc X.env.scope x)(r:RelV v u)
  (h:∀s',Inv X pins (σ.set i (some v)) H s'→Q () s') (hf:X.fn x=true∨X.env.scope.names.lookup x=some .local:=by first|exact .inl rfl|exact .inr rfl|assumption):wpAny M A (storeName X.env x u) Q E s:=
 XD I hN hi hx r (fun s' I' _=>h s' I') hf
theorem Inv.call'{s':Shared}{ch:List Addr}(I:Inv X pins σ H s)(ho:s'.os=s.os)(u:Un (frs X.stack) ch H H' s.heap s'.heap)(hok:HOk X.prog X.w H' s'.heap)(hg:AllBare s'.gens)
  (hch:∀b∈ch,(b∈X.ex∨X.s₀.heap.objs.size≤b)∧b≠X.env.locals∧(∀x c,X.env.cells.lookup x=some c→c≠b)∧∀p∈X.pn++pins,p.1≠b):Inv X pins σ H' s':=by
 obtain⟨h',g',d',t',o'⟩:=s'
 have e:o'=s.os:=ho
 subst e
 exact I.call (g':=g') (t':=t') (d':=d') u hok hg hch
end
noncomputable abbrev XK:=Value→Option Addr→Hp→Prop
noncomputable abbrev St:=List (Option V)
noncomputable abbrev VK:=V→Hp→Prop
noncomputable abbrev TE:=St→Hp→VK→Prop
noncomputable abbrev TT:=St→Hp→(Bool→Hp→Prop)→Prop
noncomputable abbrev TA:=St→Hp→(List V→Hp→Prop)→Prop
structure Xx where
 nx:St→Hp→Prop
 rt:VK
 bk:St→Hp→Prop:=fun _ _=>False
 ct:St→Hp→Prop:=fun _ _=>False
noncomputable abbrev TS:=Xx→St→Hp→Prop
noncomputable def EP(X:Cx)(pins:List (Addr×Obj))(σ:St)(Q:VK)(u:Value)(s':Shared):Prop:=∃v H',Inv X pins σ H' s'∧RelV v u∧Q v H'
noncomputable def TP(X:Cx)(pins:List (Addr×Obj))(σ:St)(Q:Bool→Hp→Prop)(b:Bool)(s':Shared):Prop:=∃H',Inv X pins σ H' s'∧Q b H'
noncomputable def AP(X:Cx)(pins:List (Addr×Obj))(σ:St)(Q:List V→Hp→Prop)(us:List Value)(s':Shared):Prop:=∃vs H',Inv X pins σ H' s'∧Vals vs us∧Q vs H'
noncomputable def SP(X:Cx)(pins:List (Addr×Obj))(D:Xx)(f:Flow)(s':Shared):Prop:=
 match f with
 |.next=>∃σ' H',Inv X pins σ' H' s'∧D.nx σ' H'
 |.brk=>∃σ' H',Inv X pins σ' H' s'∧D.bk σ' H'
 |.cont=>∃σ' H',Inv X pins σ' H' s'∧D.ct σ' H'
 |.ret u=>∃v σ' H',Inv X pins σ' H' s'∧RelV v u∧D.rt v H'
noncomputable def PE(X:Cx)(e:Expr)(t:TE):Prop:=
 ∀(pins:List (Addr×Obj)) (s:Shared) (σ:St) (H:Hp) (Q:VK),Inv X pins σ H s→t σ H Q→wpAny (model X.prog X.w) X.A (eval e X.env) (EP X pins σ Q) X.xe s
noncomputable def PT(X:Cx)(e:Expr)(t:TT):Prop:=
 ∀(pins:List (Addr×Obj)) (s:Shared) (σ:St) (H:Hp) (Q:Bool→Hp→Prop),Inv X pins σ H s→t σ H Q→wpAny (model X.prog X.w) X.A (isTrue e X.env (eval e X.env)) (TP X pins σ Q) X.xe s
noncomputable def PW(X:Cx)(e:Expr)(t:TT):Prop:=
 ∀(whole:Sem Value) (pins:List (Addr×Obj)) (s:Shared) (σ:St) (H:Hp) (Q:Bool→Hp→Prop),Inv X pins σ H s→t σ H Q→wpAny (model X.prog X.w) X.A (isTrue e X.env whole) (TP X pins σ Q) X.xe s
theorem PW.pt{X:Cx}{e:Expr}{t:TT}(h:PW X e t):PT X e t:=h _
noncomputable def PA(X:Cx)(es:List Expr)(t:TA):Prop:=
 ∀(pos:Pos) (pins:List (Addr×Obj)) (s:Shared) (σ:St) (H:Hp) (Q:List V→Hp→Prop),Inv X pins σ H s→t σ H Q→wpAny (model X.prog X.w) X.A (spliced (backTo pos (starEach es X.env))) (AP X pins σ Q) X.xe s
noncomputable def PS(X:Cx)(st:Stmt)(t:TS):Prop:=
 ∀(pins:List (Addr×Obj)) (s:Shared) (σ:St) (H:Hp) (D:Xx),Inv X pins σ H s→t D σ H→wpAny (model X.prog X.w) X.A (exec st X.env) (SP X pins D) X.xe s
noncomputable def PSs(X:Cx)(st:List Stmt)(t:TS):Prop:=
 ∀(pins:List (Addr×Obj)) (s:Shared) (σ:St) (H:Hp) (D:Xx),Inv X pins σ H s→t D σ H→wpAny (model X.prog X.w) X.A (execs st X.env) (SP X pins D) X.xe s
theorem thn{α:Type}{t:Sem α}{Q Q':α→Shared→Prop}{M:Model}{A:Around}{E:Value→Shared→Prop}{s:Shared}(h:wpAny M A t Q E s)(hQ:∀a s,Q a s→Q' a s):wpAny M A t Q' E s:=wpAny_mono h hQ fun _ _ x=>x
section
variable{X:Cx}
noncomputable def wX(i:Nat):TE:=fun σ H Q=>∃v,σ[i]?=some (some v)∧Q v H
noncomputable def tC(v:V):TE:=fun _ H Q=>Q v H
theorem zc3{i:Nat}{x:Str}{pos:Pos}(hN:X.N[i]?=some x)(hv:Vis X.env.scope x)(hd:(x==("__debug__" : Str))=false:=by decide)(hcd:(x==("__classdict__" : Str))=false:=by decide):PE X (.Name x pos) (wX i):=by
 intro pins s σ H Q I h
 obtain⟨v,e,h⟩:=h
 obtain⟨m,hn,hl⟩:=I.loc
 obtain⟨u,r,l⟩:=hl i x v hN e hv
 have fin:EP X pins σ Q u s:=⟨v,H,I,r,h⟩
 rcases l with ⟨hk,hm⟩|⟨hk,c,hc,hcell⟩
 ·exact wpAny_Name (wpAny_loadName_local I.ok.kind hk hn hm fin) hd
 ·rcases hk with hk|hk
  ·exact wpAny_Name (wpAny_loadName_cell I.ok.kind hk hc hcell fin) hd
  ·exact wpAny_Name (wpAny_loadName_free I.ok.kind hk hc hcell fin hcd) hd
theorem Ud{i j pos}:PE X (.Constant (.int i) j pos) (tC (.int i)):=fun _ _ _ H _ I h=>wpAny_Constant_int ⟨.int i,H,I.tok _,⟨_,rfl⟩,h⟩
theorem pe_bl{b j pos}:PE X (.Constant (.bool b) j pos) (tC (.bl b)):=fun _ _ _ H _ I h=>Constant_bool ⟨.bl b,H,I,rfl,h⟩
theorem zc7{j pos}:PE X (.Constant .none j pos) (tC .non):=fun _ _ _ H _ I h=>Constant_none ⟨.non,H,I,rfl,h⟩
theorem zc5{x j pos}:PE X (.Constant (.str x) j pos) (tC (.str x)):=fun _ _ _ H _ I h=>Calls.Constant_str ⟨.str x,H,I.tok _,⟨_,rfl⟩,h⟩
noncomputable def Gl(X:Cx)(x:Str):Prop:=X.env.kindOf x=some .globalImplicit
theorem WD{E:Value→Shared→Prop}{pins:List (Addr×Obj)}{s:Shared}{σ:St}{H:Hp}{x:Str}{u:Value}{pos:Pos}{Q:Value→Shared→Prop}(I:Inv X pins σ H s)(hg:Gl X x)(hm:X.mg x=some u)(h:Q u s)
  (hd:(x==("__debug__" : Str))=false:=by decide):wpAny (model X.prog X.w) X.A (eval (.Name x pos) X.env) Q E s:=
 Calls.Name_function_global I.ok.kind hg (Calls.loadGlobal_global (by rw[I.ok.glob];exact I.mod.glob.keeps I.bk) hm h) hd
theorem uI{E:Value→Shared→Prop}{pins:List (Addr×Obj)}{s:Shared}{σ:St}{H:Hp}{x:Str}{u:Value}{pos:Pos}{Q:Value→Shared→Prop}(I:Inv X pins σ H s)(hg:Gl X x)(hm:X.mg x=none)(hv:bootBuiltins x=some u)(h:Q u s)
  (hn:x ≠ "__name__" := by decide) (hd:(x==("__debug__" : Str))=false:=by decide):wpAny (model X.prog X.w) X.A (eval (.Name x pos) X.env) Q E s:=by
 obtain⟨mb,h1,h2⟩:=I.mod.blt
 exact Calls.Name_function_global I.ok.kind hg (Calls.loadGlobal_builtin (by rw[I.ok.glob];exact I.mod.glob.keeps I.bk) hm (by rw[I.ok.blt];exact h1.keeps I.bk) ((h2 x hn).trans hv) h) hd
theorem Tw{x:Str}{v:V}{u:Value}{pos:Pos}(hg:Gl X x)(hm:X.mg x=some u)(r:RelV v u)(hd:(x==("__debug__" : Str))=false:=by decide):PE X (.Name x pos) (tC v):=
 fun _ _ _ H _ I h=>WD I hg hm ⟨v,H,I,r,h⟩ hd
variable{a b:Expr}{ta tb:TE}{pos:Pos}
noncomputable def tB(t:TE):TT:=fun σ H Q=>t σ H fun x H1=>∃c,x=.bl c∧Q c H1
variable{tA tB':TT}{rest:List Expr}
noncomputable def tAnd(t u:TT):TT:=fun σ H Q=>t σ H fun c H1=>if c=true then u σ H1 Q else Q false H1
noncomputable def tOr(t u:TT):TT:=fun σ H Q=>t σ H fun c H1=>if c=true then Q true H1 else u σ H1 Q
noncomputable def tNot(t:TT):TT:=fun σ H Q=>t σ H fun c H1=>Q (!c) H1
theorem Tj(ha:PT X a tA):PW X (.BoolOp .And [a] pos) tA:=by
 intro wh pins s σ H Q I h
 refine isTrue_and (thn (ha pins s σ H Q I h) fun c s1 e=>?_)
 cases c with
 |true=>exact isTrue_and_nil e
 |false=>exact e
theorem zb2(ha:PT X a tA):PW X (.BoolOp .Or [a] pos) tA:=by
 intro wh pins s σ H Q I h
 refine isTrue_or (thn (ha pins s σ H Q I h) fun c s1 e=>?_)
 cases c with
 |false=>exact isTrue_or_nil e
 |true=>exact e
theorem zb4(ha:PT X a tA)(hb:PW X (.BoolOp .And (b::rest) pos) tB'):PW X (.BoolOp .And (a::b::rest) pos) (tAnd tA tB'):=by
 intro wh pins s σ H Q I h
 refine isTrue_and (thn (ha pins s σ H _ I h) fun c s1 z_=>?_)
 obtain⟨H1,I1,q1⟩:=z_
 cases c with
 |true=>exact hb wh pins s1 σ H1 Q I1 q1
 |false=>exact⟨H1,I1,q1⟩
theorem pw_or(ha:PT X a tA)(hb:PW X (.BoolOp .Or (b::rest) pos) tB'):PW X (.BoolOp .Or (a::b::rest) pos) (tOr tA tB'):=by
 intro wh pins s σ H Q I h
 refine isTrue_or (thn (ha pins s σ H _ I h) fun c s1 z_=>?_)
 obtain⟨H1,I1,q1⟩:=z_
 cases c with
 |true=>exact⟨H1,I1,q1⟩
 |false=>exact hb wh pins s1 σ H1 Q I1 q1
theorem zb5(ha:PT X a tA):PT X (.UnaryOp .Not a pos) (tNot tA):=by
 intro pins s σ H Q I h
 exact isTrue_not (ha pins s σ H (fun c H1=>Q (!c) H1) I h)
theorem zc6{op}{t:TE}(h:PE X a t):PE X (.BoolOp op [a] pos) t:=fun pins s σ H Q I hw=>BoolOp_one (h pins s σ H Q I hw)
noncomputable def tIf(t:TT)(ta tb:TE):TE:=fun σ H Q=>t σ H fun c H1=>if c=true then ta σ H1 Q else tb σ H1 Q
theorem Gn{c:Expr}(hc:PT X c tA)(ha:PE X a ta)(hb:PE X b tb):PE X (.IfExp c a b pos) (tIf tA ta tb):=by
 intro pins s σ H Q I h
 refine wpAny_IfExp (thn (hc pins s σ H _ I h) fun d s1 z_=>?_)
 obtain⟨H1,I1,q1⟩:=z_
 cases d with
 |true=>exact ha pins s1 σ H1 Q I1 q1
 |false=>exact hb pins s1 σ H1 Q I1 q1
end
noncomputable def SqL(K:Frag)(H:Hp)(a:Addr)(xs:List V):Prop:=
 Rd H a (.lst xs) ∨
  ∃(o:Obj) (its:Array Value) (n:Nat),K.lookup a=some o∧o.cls=.type "list" ∧ o.dict=none∧o.data=.seq its n∧its.size≤sizeLine∧Vals xs its.toList
noncomputable def SqT(K:Frag)(H:Hp)(a:Addr)(xs:List V):Prop:=
 Rd H a (.tup xs) ∨
  ∃(o:Obj) (its:Array Value) (n:Nat),K.lookup a=some o∧o.cls=.type "tuple" ∧ o.data=.seq its n∧its.size≤sizeLine∧Vals xs its.toList
noncomputable def absV:Value→Option V
 |.none=>some .non
 |.bool b=>some (.bl b)
 |.int i _=>some (.int i)
 |.str x _=>some (.str x)
 |.bytes b _=>some (.byt b)
 |.float b _=>some (.flt b)
 |.ref a=>some (.ref a)
 |.type n=>some (.ty n)
 |_=>none
theorem RelV.abs{x:V}{u:Value}(r:RelV x u):absV u=some x:=by
 cases x with
 |non=>cases r;rfl
 |bl _=>cases r;rfl
 |int _=>obtain⟨t,rfl⟩:=r;rfl
 |str _=>obtain⟨t,rfl⟩:=r;rfl
 |byt _=>obtain⟨t,rfl⟩:=r;rfl
 |flt _=>obtain⟨t,rfl⟩:=r;rfl
 |ref _=>cases r;rfl
 |ty _=>cases r;rfl
theorem RelV.inj{x y:V}{u:Value}(r:RelV x u)(q:RelV y u):x=y:=Option.some.inj (r.abs.symm.trans q.abs)
theorem Vals.inj:∀{xs ys:List V} {us:List Value},Vals xs us→Vals ys us→xs=ys
 |_,_,_,.nil,.nil=>rfl
 |_,_,_,.cons r t,.cons r' t'=>by rw[r.inj r',Vals.inj t t']
section
variable{X:Cx}{pins:List (Addr×Obj)}{σ:St}{H:Hp}{s:Shared}{a:Addr}{xs ys:List V}
theorem SqL.of{K:Frag}(h:H a=some (.lst xs)):SqL K H a xs:=.inl (.inl h)
theorem SqT.of{K:Frag}(h:H a=some (.tup xs)):SqT K H a xs:=.inl (.inl h)
theorem Inv.list(I:Inv X pins σ H s)(h:SqL X.K H a xs):∃its:List Value,Vals xs its∧PlainL s.heap a its.toArray∧xs.length≤sizeLine:=by
 rcases h with h|⟨o,its,n,hk,hc,hd,hs,hz,r⟩
 ·obtain⟨z,its,n,r,e⟩:=h.ok I.hok
  exact⟨its,r,⟨_,n,e,rfl,rfl,rfl⟩,z⟩
 ·refine⟨its.toList,r,⟨o,n,I.kIn a o hk,hc,hd,by simpa using hs⟩,?_⟩
  have e:=r.length
  simp only[length_toList] at e
  lia
theorem Inv.tuple(I:Inv X pins σ H s)(h:SqT X.K H a xs):∃its:List Value,Vals xs its∧IsTup s.heap a its.toArray∧xs.length≤sizeLine:=by
 rcases h with h|⟨o,its,n,hk,hc,hs,hz,r⟩
 ·obtain⟨z,its,r,p⟩:=h.ok I.hok
  exact⟨its,r,p,z⟩
 ·refine⟨its.toList,r,⟨o,I.kIn a o hk,hc,n,by simpa using hs⟩,?_⟩
  have e:=r.length
  simp only[length_toList] at e
  lia
theorem Inv.list_inj(I:Inv X pins σ H s)(h:SqL X.K H a xs)(h':SqL X.K H a ys):xs=ys:=by
 obtain⟨its,r,⟨o,n,e,_,_,d⟩,_⟩:=I.list h
 obtain⟨its',r',⟨o',n',e',_,_,d'⟩,_⟩:=I.list h'
 rw[e] at e';cases e'
 rw[d] at d'
 injection d' with d1 _
 have:its=its':=by simpa using congrArg Array.toList d1
 subst this
 exact r.inj r'
theorem Inv.tuple_inj(I:Inv X pins σ H s)(h:SqT X.K H a xs)(h':SqT X.K H a ys):xs=ys:=by
 obtain⟨its,r,⟨o,e,_,n,d⟩,_⟩:=I.tuple h
 obtain⟨its',r',⟨o',e',_,n',d'⟩,_⟩:=I.tuple h'
 rw[e] at e';cases e'
 rw[d] at d'
 injection d' with d1 _
 have:its=its':=by simpa using congrArg Array.toList d1
 subst this
 exact r.inj r'
end
noncomputable abbrev Cx.wish(X:Cx)(E:Value→Shared→Prop):Cx:={ X with xe:=E }
noncomputable abbrev Cx.nox(X:Cx):Cx:=X.wish fun _ _=>False
theorem Cx.Ok.wish{X:Cx}(ok:X.Ok)(E:Value→Shared→Prop):(X.wish E).Ok:=
 ⟨ok.mod,ok.kind,ok.glob,ok.blt,ok.above,ok.inj,ok.has,ok.cab,ok.hd,ok.frames,ok.stk,ok.exf,ok.bs,ok.bsz,ok.noex,ok.exfs,ok.funs,ok.frf⟩
theorem Cx.Ok.unwish{X:Cx}{E:Value→Shared→Prop}(ok:(X.wish E).Ok):X.Ok:=
 ⟨ok.mod,ok.kind,ok.glob,ok.blt,ok.above,ok.inj,ok.has,ok.cab,ok.hd,ok.frames,ok.stk,ok.exf,ok.bs,ok.bsz,ok.noex,ok.exfs,ok.funs,ok.frf⟩
section
variable{X:Cx}{pins:List (Addr×Obj)}{σ:St}{H:Hp}{s:Shared}{E:Value→Shared→Prop}
theorem Inv.wish(I:Inv X pins σ H s)(E:Value→Shared→Prop):Inv (X.wish E) pins σ H s:=⟨I.ok.wish E,I.os,I.bare,I.base,I.loc,I.cell,I.free,I.freeC,I.pin,I.hok,I.len⟩
theorem Inv.unwish(I:Inv (X.wish E) pins σ H s):Inv X pins σ H s:=⟨I.ok.unwish,I.os,I.bare,I.base,I.loc,I.cell,I.free,I.freeC,I.pin,I.hok,I.len⟩
theorem SP.unwish{D:Xx}{f:Flow}{s':Shared}(h:SP (X.wish E) pins D f s'):SP X pins D f s':=by
 cases f with
 |next=>obtain⟨σ',H',I,q⟩:=h;exact⟨σ',H',I.unwish,q⟩
 |brk=>obtain⟨σ',H',I,q⟩:=h;exact⟨σ',H',I.unwish,q⟩
 |cont=>obtain⟨σ',H',I,q⟩:=h;exact⟨σ',H',I.unwish,q⟩
 |ret u=>obtain⟨v,σ',H',I,r,q⟩:=h;exact⟨v,σ',H',I.unwish,r,q⟩
theorem PSs.nox{st:List Stmt}{t:TS}(h:PSs X.nox st t):PSs X st t:=fun pins s σ H D I hw=>
 wpAny_mono (h pins s σ H D (I.wish _) hw) (fun _ _ q=>q.unwish) fun _ _ z=>False.elim z
end
section
variable{X:Cx}{st:Stmt}{rest:List Stmt}{t u:TS}{e:Expr}{te:TE}{pos:Pos}
noncomputable def tNext:TS:=fun D σ H=>D.nx σ H
noncomputable def tSeq(t u:TS):TS:=fun D σ H=>t { D with nx:=u D } σ H
theorem Tp:PSs X [] tNext:=fun _ _ σ H _ I h=>wpAny_execs_nil ⟨σ,H,I,h⟩
theorem uA(h1:PS X st t)(h2:PSs X rest u):PSs X (st::rest) (tSeq t u):=by
 intro pins s σ H D I h
 refine wpAny_execs_cons (thn (h1 pins s σ H { D with nx:=u D } I h) fun f s1 q=>?_)
 cases f with
 |next=>
  obtain⟨σ',H',I',q⟩:=q
  exact h2 pins s1 σ' H' D I' q
 |ret v=>exact q
 |brk=>exact q
 |cont=>exact q
theorem uU(h1:PS X st t):PSs X [st] t:=by
 intro pins s σ H D I h
 refine wpAny_execs_cons (thn (h1 pins s σ H D I h) fun f s1 q=>?_)
 cases f with
 |next=>exact wpAny_execs_nil q
 |ret v=>exact q
 |brk=>exact q
 |cont=>exact q
theorem Inv.quiet{pins:List (Addr×Obj)}{σ:St}{H:Hp}{s:Shared}(I:Inv X pins σ H s):interactive X.env=false:=by simp[interactive,I.ok.kind]
noncomputable def tDrop(te:TE):TS:=fun D σ H=>te σ H fun _ H1=>D.nx σ H1
theorem U5(he:PE X e te)(hs:swapsWith e none pos.line X.env=pure false:=by rfl):PS X (.Expr e pos) (tDrop te):=by
 intro pins s σ H D I h
 exact wpAny_Expr_any (thn (he pins s σ H _ I h) fun v s1 ⟨x,H1,I1,r1,q1⟩=>⟨σ,H1,I1,q1⟩) I.quiet hs
noncomputable def tRet(te:TE):TS:=fun D σ H=>te σ H D.rt
theorem Yo(he:PE X e te):PS X (.Return (some e) pos) (tRet te):=by
 intro pins s σ H D I h
 exact wpAny_Return_some (thn (he pins s σ H _ I h) fun v s1 ⟨x,H1,I1,r1,q1⟩=>⟨x,σ,H1,I1,r1,q1⟩)
noncomputable def tIfS(c:TT)(t u:TS):TS:=fun D σ H=>c σ H fun b H1=>if b=true then t D σ H1 else u D σ H1
theorem LR{c:Expr}{a b:List Stmt}{tc:TT}(hc:PT X c tc)(ha:PSs X a t)(hb:PSs X b u):PS X (.If c a b pos) (tIfS tc t u):=by
 intro pins s σ H D I h
 refine wpAny_If (thn (hc pins s σ H _ I h) fun d s1 z_=>?_)
 obtain⟨H1,I1,q1⟩:=z_
 cases d with
 |true=>exact ha pins s1 σ H1 D I1 q1
 |false=>exact hb pins s1 σ H1 D I1 q1
end
noncomputable abbrev TG:=V→St→Hp→(St→Hp→Prop)→Prop
noncomputable abbrev TGs:=List V→St→Hp→(St→Hp→Prop)→Prop
noncomputable def PG(X:Cx)(target:Expr)(t:TG):Prop:=
 ∀(pins:List (Addr×Obj)) (s:Shared) (σ:St) (H:Hp) (v:V) (u:Value) (Q:St→Hp→Prop),Inv X pins σ H s→RelV v u→t v σ H Q →
  wpAny (model X.prog X.w) X.A (assign target X.env u) (fun _ s'=>∃σ' H',Inv X pins σ' H' s'∧Q σ' H') X.xe s
noncomputable def PGs(X:Cx)(ts:List Expr)(t:TGs):Prop:=
 ∀(pins:List (Addr×Obj)) (s:Shared) (σ:St) (H:Hp) (vs:List V) (us:List Value) (Q:St→Hp→Prop),Inv X pins σ H s→Vals vs us→t vs σ H Q →
  wpAny (model X.prog X.w) X.A (assignInOrder ((assignEach ts X.env).map (·.2)) us) (fun _ s'=>∃σ' H',Inv X pins σ' H' s'∧Q σ' H') X.xe s
noncomputable abbrev zi9:=V→V→V→Hp→(Hp→Prop)→Prop
noncomputable def PSet(X:Cx)(t:zi9):Prop:=
 ∀(pins:List (Addr×Obj)) (s:Shared) (σ:St) (H:Hp) (o i v:V) (ov iv u:Value) (Q:Hp→Prop),Inv X pins σ H s→RelV o ov→RelV i iv→RelV v u→t o i v H Q →
  wpAny (model X.prog X.w) X.A (setItem ov iv u) (fun _ s'=>∃H',Inv X pins σ H' s'∧Q H') X.xe s
section
variable{X:Cx}{pos:Pos}
noncomputable def X9(i:Nat):TG:=fun v σ H Q=>Q (σ.set i (some v)) H
theorem jQ{i:Nat}{x:Str}(hN:X.N.Nodup)(hi:X.N[i]?=some x)(hx:Loc X.env.scope x)(hf:X.fn x=true∨X.env.scope.names.lookup x=some .local:=by first|exact .inl rfl|exact .inr rfl|assumption):PG X (.Name x pos) (X9 i):=by
 intro pins s σ H v u Q I r h
 exact wpAny_assign_Name (WY I hN hi hx r (fun s' I'=>⟨_,H,I',h⟩) hf)
noncomputable def gNil:TGs:=fun vs σ H Q=>vs=[]∧Q σ H
noncomputable def gCons(t:TG)(u:TGs):TGs:=fun vs σ H Q=>∃v r,vs=v::r∧t v σ H fun σ' H'=>u r σ' H' Q
theorem Tu:PGs X [] gNil:=by
 intro pins s σ H vs us Q I r h
 obtain⟨e,h⟩:=h
 subst e
 cases r
 exact assignInOrder_nil ⟨σ,H,I,h⟩
theorem Vc{e:Expr}{es:List Expr}{t:TG}{u:TGs}(h1:PG X e t)(h2:PGs X es u)
  (hs:(assignEach (e::es) X.env).map (·.2)=assign e X.env::(assignEach es X.env).map (·.2):=by rfl):PGs X (e::es) (gCons t u):=by
 intro pins s σ H vs us Q I r h
 obtain⟨v,vr,e1,h⟩:=h
 subst e1
 cases r with
 |cons r rr=>
  rw[hs]
  refine assignInOrder_cons (thn (h1 pins s σ H _ _ _ I r h) fun _ s1 z_=>?_)
  obtain⟨σ1,H1,I1,q1⟩:=z_
  exact h2 pins s1 σ1 H1 _ _ Q I1 rr q1
noncomputable def gTup(K:Frag)(n:Nat)(t:TGs):TG:=fun v σ H Q=>∃a xs,v=.ref a∧SqT K H a xs∧xs.length=n∧t xs σ H Q
theorem zc1{es:List Expr}{k:Nat}{t:TGs}{n:Nat}(hc:X.calm=true)(h:PGs X es t)
  (hn:(assignEach es X.env).length=n:=by rfl) (hst:(assignEach es X.env).findIdx? (·.1)=none:=by rfl):PG X (.Tuple es k pos) (gTup X.K n t):=by
 intro pins s σ H v u Q I r hw
 obtain⟨a,xs,e1,hq,hl,hw⟩:=hw
 subst e1
 cases r
 obtain⟨its,rv,ht,hz⟩:=I.tuple hq
 refine assign_Tuple_tuple (I.ok.hd hc) ht (by simp[hn,← hl,rv.length]) hst fun h' hx=>?_
 have I1:Inv X pins σ H { s with heap:=h' }:=I.kept (t':=s.toks) fun b o e=>hx b o (ne_of_lt (Heap.lt_size e)) e
 exact h pins _ σ H xs _ Q I1 (by simpa using rv) hw
noncomputable def gSub(to ti:TE)(t:zi9):TG:=fun v σ H Q=>to σ H fun o H1=>ti σ H1 fun i H2=>t o i v H2 fun H3=>Q σ H3
theorem zc2{o i:Expr}{to ti:TE}{t:zi9}(ho:PE X o to)(hi:PE X i ti)(hs:PSet X t)
  (ha:∀v,assign (.Subscript o i pos) X.env v=(do
   let ov ← holding [v] (eval o X.env)
   let iv ← holding [v,ov] (eval i X.env)
   standAt pos
   holding [v,ov,iv] (setItem ov iv v)
   release [v,ov,iv] []):=by intro _;rfl):PG X (.Subscript o i pos) (gSub to ti t):=by
 intro pins s σ H v u Q I r h
 rw[ha]
 refine wpAny_bind (wpAny_holding (thn (ho pins s σ H _ I h) fun ov s1 z_=>?_))
 obtain⟨x,H1,I1,r1,q1⟩:=z_
 refine wpAny_bind (wpAny_holding (thn (hi pins s1 σ H1 _ I1 q1) fun iv s2 z_=>?_))
 obtain⟨y,H2,I2,r2,q2⟩:=z_
 refine wpAny_bind (wpAny_standAt (wpAny_bind (wpAny_holding (thn (hs pins s2 σ H2 x y v ov iv u _ I2 r1 r2 r q2) fun _ s3 z_=>?_))))
 obtain⟨H3,I3,q3⟩:=z_
 exact wpAny_release ⟨σ,H3,I3,q3⟩
noncomputable def za7(te:TE)(g:TG):TS:=fun D σ H=>te σ H fun x H1=>g x σ H1 D.nx
theorem zb7{tg e:Expr}{te:TE}{g:TG}(he:PE X e te)(hg:PG X tg g)(hs:swapsWithSole [tg] e pos.line X.env=pure false:=by rfl)(hw:swappedStores [tg] e X.env=pure none:=by rfl)
  (h1:(assignEach [tg] X.env).map (·.2)=[assign tg X.env]:=by rfl):PS X (.Assign [tg] e pos) (za7 te g):=by
 intro pins s σ H D I h
 refine wpAny_Assign_stores (thn (he pins s σ H _ I h) fun v s1 z_=>?_) hs hw
 obtain⟨x,H1,I1,r1,q1⟩:=z_
 rw[h1]
 exact thn (hg pins s1 σ H1 x v _ I1 r1 q1) fun _ s2 q=>q
theorem Yn{i:Nat}{x:Str}{e:Expr}{te:TE}{pos':Pos}(hN:X.N.Nodup)(hi:X.N[i]?=some x)(hx:Loc X.env.scope x)(he:PE X e te)(hs:swapsWith e (some (.Name x pos')) pos.line X.env=pure false:=by rfl)(hf:X.fn x=true∨X.env.scope.names.lookup x=some .local:=by first|exact .inl rfl|exact .inr rfl|assumption) :
  PS X (.Assign [.Name x pos'] e pos) (za7 te (X9 i)):=by
 intro pins s σ H D I h
 refine wpAny_Assign_Name (thn (he pins s σ H _ I h) fun v s1 z_=>?_) hs
 obtain⟨y,H1,I1,r1,q1⟩:=z_
 exact WY I1 hN hi hx r1 (fun s2 I2=>⟨_,H1,I2,q1⟩) hf
end
section
variable{X:Cx}{pos:Pos}
end
structure It where
 go:Nat→Hp→Prop
 yld:Nat→Hp→V→Hp→Prop
 stop:Nat→Hp→Prop
noncomputable def Xw(X:Cx)(pins:List (Addr×Obj))(H:Hp)(b:Addr):Prop:=
 H b=none∧b≠X.env.locals∧b∉X.fs∧(b∈X.ex∨X.s₀.heap.objs.size≤b)∧(∀x c,X.env.cells.lookup x=some c→c≠b)∧∀p∈X.pn++pins,p.1≠b
theorem Inv.fpOk{X:Cx}{pins:List (Addr×Obj)}{σ:St}{H H':Hp}{s:Shared}{b:Addr}(I:Inv X pins σ H s)(hb:s.heap.objs.size≤b)(hn:H' b=none):Xw X pins H' b:=by
 refine⟨hn,ne_of_gt (lt_of_lt_of_le I.lt hb),I.nofs hb,.inr (le_trans I.sz hb),fun x c e z=>?_,fun p hp z=>?_⟩
 ·obtain⟨v,q⟩:=I.cell x c e
  exact absurd (lt_of_lt_of_le q.lt (by rw[z];exact hb)) (lt_irrefl _)
 ·exact absurd (lt_of_lt_of_le (Heap.lt_size (I.pin p hp).1) (by rw[z];exact hb)) (lt_irrefl _)
structure Xt(P:Program)(w:World)(K:Frag)(tg:Expr)(J:It)(fp:List Addr)(it:Addr)(tn:Nat→Heap→Prop):Prop where
 mem:it∈fp
 obj:∀i h,tn i h→∀b∈fp,∃o,h.get? b=some o∧∀v,o.data≠.cell v
 keep:∀i h h',tn i h→(∀b∈fp,∀o,h.get? b=some o→h'.get? b=some o)→tn i h'
 item:∀(X:Cx),X.prog=P→X.w=w→X.K=K→X.calm=true→∀(i:Nat) (pins:List (Addr×Obj)) (s:Shared) (σ:St) (H:Hp) (E:Value→Shared→Prop),Inv X pins σ H s→(∀b∈fp,Xw X pins H b)→tn i s.heap→J.go i H →
  wpAny (model P w) X.A (pyNext (.ref it)) (fun r s1=>∃u,r=some u ∧
   wpAny (model P w) X.A (letOwnedTupleGo tg (.ref it) u) (fun _ s2=>∃x H',Inv X pins σ H' s2∧RelV x u∧J.yld i H x H'∧tn (i+1) s2.heap∧∀b∈fp,H' b=none) E s1) E s
 done:∀(X:Cx),X.prog=P→X.w=w→X.K=K→X.calm=true→∀(i:Nat) (pins:List (Addr×Obj)) (s:Shared) (σ:St) (H:Hp) (E:Value→Shared→Prop),Inv X pins σ H s→(∀b∈fp,Xw X pins H b)→tn i s.heap→J.stop i H →
  wpAny (model P w) X.A (pyNext (.ref it)) (fun r s1=>r=none∧Inv X pins σ H s1) E s
 self:∀(A:Around) (i:Nat) (s:Shared) (Q:Value→Shared→Prop) (E:Value→Shared→Prop),tn i s.heap→Q (.ref it) s→wpAny (model P w) A (pyIter (.ref it)) Q E s
noncomputable abbrev TI:=St→Hp→(It→Hp→Prop)→Prop
noncomputable def PIE(X:Cx)(pins:List (Addr×Obj))(σ:St)(tg:Expr)(R:It→Hp→Prop)(itv:Value)(s2:Shared):Prop:=
 ∃(it:Addr) (fp:List Addr) (tn:Nat→Heap→Prop) (J:It) (H':Hp),itv=.ref it∧Inv X pins σ H' s2∧Xt X.prog X.w X.K tg J fp it tn∧tn 0 s2.heap∧(∀b∈fp,Xw X pins H' b)∧R J H'
noncomputable def PI(X:Cx)(tg iter:Expr)(wi:TI):Prop:=
 ∀(pins:List (Addr×Obj)) (s:Shared) (σ:St) (H:Hp) (R:It→Hp→Prop),Inv X pins σ H s→wi σ H R →
  wpAny (model X.prog X.w) X.A (eval iter X.env) (fun v s1=>wpAny (model X.prog X.w) X.A (pyIter v) (PIE X pins σ tg R) X.xe s1) X.xe s
theorem X8{M:Model}{A:Around}{E:Value→Shared→Prop}{s:Shared}{tg:Expr}{it:Addr}{u:Value}{o:Obj}{n:String}{vs:Array Value}{Q:Unit→Shared→Prop}(ho:s.heap.get? it=some o)(hc:o.cls=.type n)(hd:o.data=.fields vs)
  (hn:["enumerate", "zip", "dict_itemiterator", "dict_reverseitemiterator", "odict_iterator", "itertools.zip_longest", "itertools.pairwise"].contains n=false) (hQ:Q () s):wpAny M A (letOwnedTupleGo tg (.ref it) u) Q E s:=by
 unfold letOwnedTupleGo
 cases tg <;> first
  | exact wpAny_pure hQ
  | (cases u <;> first
    | exact wpAny_pure hQ
    | (refine wpAny_bind (wpAny_load ho ?_)
       rw[hc,hd]
       show wpAny M A (if (["enumerate", "zip", "dict_itemiterator", "dict_reverseitemiterator", "odict_iterator", "itertools.zip_longest", "itertools.pairwise"].contains n&&vs[0]?==some (rawInt _))=true then _ else _) Q E s
       rw[if_neg (by intro h;rw[hn,Bool.false_and] at h;cases h)]
       exact wpAny_pure hQ))
noncomputable def Itl(K:Frag)(a:Addr):It:=
 ⟨fun i H=>∃xs x,SqL K H a xs∧xs[i]?=some x,fun i H x H'=>H'=H∧∀xs,SqL K H a xs→xs[i]?=some x,fun i H=>∃xs,SqL K H a xs∧xs.length≤i⟩
noncomputable def Itt(K:Frag)(a:Addr):It:=
 ⟨fun i H=>∃xs x,SqT K H a xs∧xs[i]?=some x,fun i H x H'=>H'=H∧∀xs,SqT K H a xs→xs[i]?=some x,fun i H=>∃xs,SqT K H a xs∧xs.length≤i⟩
noncomputable def Itr(lo:Int)(n:Nat):It:=⟨fun i _=>i<n,fun i H x H'=>H'=H∧x=.int (lo+i),fun i _=>n≤i⟩
theorem Xz{P:Program}{w:World}{K:Frag}{tg:Expr}(a it:Addr):Xt P w K tg (Itl K a) [it] it (fun i h=>h.IsListIter it a i) where
 mem:=by simp
 obj:=fun i h st b hb=>by
  have e:b=it:=by simpa using hb
  subst e
  obtain⟨o,e,c,d⟩:=st
  exact⟨o,e,fun v z=>by rw[d] at z;cases z⟩
 keep:=fun i h h' st k=>st.at fun o e=>k it (by simp) o e
 item:=by
  intro X hP hw hK hc i pins s σ H E I hf st hg
  subst hP hw hK
  obtain⟨xs,x,hq,hx⟩:=hg
  obtain⟨its,rv,p,hz⟩:=I.list hq
  obtain⟨u,hu,ru⟩:=rv.get hx
  obtain⟨f0,f1,f2,f3,f4,f5⟩:=hf it (by simp)
  refine wpAny_pyNext_list_item st p.isList (x:=u) (by simpa using hu) fun h' st' sb=>?_
  have I1:Inv X pins σ H { s with heap:=h' }:=I.turned (t':=s.toks) (fun b o hb e=>(sb.2 b hb).trans e) f0 f1 f3 f4 f5
  obtain⟨o,e,c,d⟩:=id st'
  exact⟨u,rfl,X8 (s:={ s with heap:=h' }) e c d (by decide) ⟨x,H,I1,ru,⟨rfl,fun ys hy=>by rw[I.list_inj hy hq];exact hx⟩,st',fun b hb=>(hf b hb).1⟩⟩
 done:=by
  intro X hP hw hK hc i pins s σ H E I hf st hg
  subst hP hw hK
  obtain⟨xs,hq,hx⟩:=hg
  obtain⟨its,rv,p,hz⟩:=I.list hq
  obtain⟨f0,f1,f2,f3,f4,f5⟩:=hf it (by simp)
  have hl:=rv.length
  exact wpAny_pyNext_list_end (I.ok.hd hc) st p.isList (by simp;lia) fun h' eb=>⟨rfl,I.turned (t':=s.toks) (fun b o hb e=>eb b o hb e) f0 f1 f3 f4 f5⟩
 self:=fun _ _ _ _ _ st h=>wpAny_pyIter_listiter st h
theorem VX{P:Program}{w:World}{K:Frag}{tg:Expr}(a it:Addr):Xt P w K tg (Itt K a) [it] it (fun i h=>h.IsTupleIter it a i) where
 mem:=by simp
 obj:=fun i h st b hb=>by
  have e:b=it:=by simpa using hb
  subst e
  obtain⟨o,e,c,d⟩:=st
  exact⟨o,e,fun v z=>by rw[d] at z;cases z⟩
 keep:=fun i h h' st k=>st.at fun o e=>k it (by simp) o e
 item:=by
  intro X hP hw hK hc i pins s σ H E I hf st hg
  subst hP hw hK
  obtain⟨xs,x,hq,hx⟩:=hg
  obtain⟨its,rv,p,hz⟩:=I.tuple hq
  obtain⟨u,hu,ru⟩:=rv.get hx
  obtain⟨f0,f1,f2,f3,f4,f5⟩:=hf it (by simp)
  refine wpAny_pyNext_tuple_item st (show s.heap.IsTuple a its.toArray from p) (x:=u) (by simpa using hu) fun h' st' sb=>?_
  have I1:Inv X pins σ H { s with heap:=h' }:=I.turned (t':=s.toks) (fun b o hb e=>(sb.2 b hb).trans e) f0 f1 f3 f4 f5
  obtain⟨o,e,c,d⟩:=id st'
  exact⟨u,rfl,X8 (s:={ s with heap:=h' }) e c d (by decide) ⟨x,H,I1,ru,⟨rfl,fun ys hy=>by rw[I.tuple_inj hy hq];exact hx⟩,st',fun b hb=>(hf b hb).1⟩⟩
 done:=by
  intro X hP hw hK hc i pins s σ H E I hf st hg
  subst hP hw hK
  obtain⟨xs,hq,hx⟩:=hg
  obtain⟨its,rv,p,hz⟩:=I.tuple hq
  obtain⟨f0,f1,f2,f3,f4,f5⟩:=hf it (by simp)
  have hl:=rv.length
  exact wpAny_pyNext_tuple_end (I.ok.hd hc) st (show s.heap.IsTuple a its.toArray from p) (by simp;lia) fun h' eb=>⟨rfl,I.turned (t':=s.toks) (fun b o hb e=>eb b o hb e) f0 f1 f3 f4 f5⟩
 self:=fun _ _ _ _ _ st h=>wpAny_pyIter_tupleiter st h
theorem VY{P:Program}{w:World}{K:Frag}{tg:Expr}(it:Addr)(lo:Int)(n:Nat):Xt P w K tg (Itr lo n) [it] it (fun i h=>IsRangeIter h it (lo+(i:Nat)*1) ((n:Int)-(i:Nat)) 1) where
 mem:=by simp
 obj:=fun i h st b hb=>by
  have e:b=it:=by simpa using hb
  subst e
  exact⟨_,st,fun v z=>by
   have z':Data.fields _=Data.cell v:=z
   cases z'⟩
 keep:=fun i h h' st k=>k it (by simp) _ st
 item:=by
  intro X hP hw hK hc i pins s σ H E I hf st hg
  subst hP hw hK
  obtain⟨f0,f1,f2,f3,f4,f5⟩:=hf it (by simp)
  have W:=Walks.range (prog:=X.prog) (w:=X.w) (I.ok.hd hc) it lo 1 n
  refine W.item i s _ _ hg st fun v h' tk hv st' kk=>?_
  obtain⟨t,rfl⟩:=hv
  have I1:Inv X pins σ H { s with heap:=h',toks:=tk }:=I.turned (fun b o hb e=>kk b o (by simpa using hb) e) f0 f1 f3 f4 f5
  refine⟨_,rfl,X8 (s:={ s with heap:=h',toks:=tk }) (n := "range_iterator") st' rfl rfl (by decide) ⟨.int (lo+i),H,I1,⟨t,?_⟩,⟨rfl,rfl⟩,st',fun b hb=>(hf b hb).1⟩⟩
  rw[Int.mul_one]
 done:=by
  intro X hP hw hK hc i pins s σ H E I hf st hg
  subst hP hw hK
  obtain⟨f0,f1,f2,f3,f4,f5⟩:=hf it (by simp)
  exact wpAny_pyNext_range_end (I.ok.hd hc) st (by have:n≤i:=hg;lia) fun h' eb=>⟨rfl,I.turned (t':=s.toks) (fun b o hb e=>eb b o hb e) f0 f1 f3 f4 f5⟩
 self:=fun _ _ _ _ _ st h=>wpAny_pyIter_rangeiter st h
section
variable{X:Cx}{tg:Expr}
noncomputable def iList(K:Frag)(tl:TE):TI:=fun σ H R=>tl σ H fun x H1=>∃a,x=.ref a∧(∃xs,SqL K H1 a xs)∧R (Itl K a) H1
theorem Tt{l:Expr}{tl:TE}(hl:PE X l tl):PI X tg l (iList X.K tl):=by
 intro pins s σ H R I h
 refine thn (hl pins s σ H _ I h) fun v s1 z_=>?_
 obtain⟨x,H1,I1,r1,q1⟩:=z_
 obtain⟨a,e,⟨xs,hq⟩,q⟩:=q1
 subst e
 cases r1
 obtain⟨its,rv,p,hz⟩:=I1.list hq
 refine wpAny_pyIter_list p.isList ?_
 refine⟨s1.heap.objs.size,[s1.heap.objs.size],_,_,H1,rfl,I1.kept (t':=s1.toks) fun b o e=>get?_push_of_some _ e,Xz a _,⟨_,Heap.get?_push_size _ rfl,rfl,rfl⟩,fun b hb=>?_,q⟩
 have e:b=s1.heap.objs.size:=by simpa using hb
 subst e
 exact I1.fpOk (le_refl _) (I1.hok.fresh (le_refl _))
theorem Gc{pins:List (Addr×Obj)}{σ:St}{H:Hp}{s:Shared}{R:It→Hp→Prop}{E:Value→Shared→Prop}{lo hi:Int}{t u v:Tok}{tk:Nat}(I:Inv X pins σ H s)(h1 : -(2 ^ 62)≤lo)(h2:lo<2 ^ 62)(h3 : -(2 ^ 62)≤hi)(h4:hi<2 ^ 62)
  (q:R (Itr lo (hi-lo).toNat) H):wpAny (model X.prog X.w) X.A (pyIter (.ref s.heap.objs.size)) (PIE X pins σ tg R) E { s with heap:=s.heap.push { cls:=.type "range", data:=.fields #[.int lo t,.int hi u,.int 1 v] },toks:=tk }:=by
 refine wpAny_pyIter_range (IsRange.new ..) (small_one h1 h2 h3 h4) ?_
 have I1:Inv X pins σ H { s with heap:=s.heap.push { cls:=.type "range", data:=.fields #[.int lo t,.int hi u,.int 1 v] },toks:=tk }:=I.kept fun b o e=>get?_push_of_some _ e
 refine⟨(s.heap.push { cls:=.type "range", data:=.fields #[.int lo t,.int hi u,.int 1 v] }).objs.size,[(s.heap.push { cls:=.type "range", data:=.fields #[.int lo t,.int hi u,.int 1 v] }).objs.size],_,_,H,rfl,
  I1.kept (t':=tk) fun b o e=>get?_push_of_some _ e,VY _ lo (hi-lo).toNat,?_,fun b hb=>?_,q⟩
 ·have e1:lo+((0:Nat):Int)*1=lo:=by simp
  have e2:(((hi-lo).toNat:Nat):Int)-((0:Nat):Int)=Builtin.Range.rangeSize lo hi 1:=by rw[rangeSize_one];split <;> lia
  show IsRangeIter _ _ (lo+((0:Nat):Int)*1) ((((hi-lo).toNat:Nat):Int)-((0:Nat):Int)) 1
  rw[e1,e2]
  exact Heap.get?_push_size _ rfl
 ·have e:b=(s.heap.push { cls:=.type "range", data:=.fields #[.int lo t,.int hi u,.int 1 v] }).objs.size:=by simpa using hb
  subst e
  exact I1.fpOk (le_refl _) (I1.hok.fresh (le_refl _))
noncomputable def iRng1(ta:TA):TI:=fun σ H R=>ta σ H fun vs H1=>∃j:Int,vs=[.int j]∧-(2 ^ 62)≤j∧j<2 ^ 62∧R (Itr 0 j.toNat) H1
theorem J7{a:Expr}{ta:TA}{p pos:Pos}(hg:Gl X "range")(hm:X.mg "range" = none)(ha:PA X [a] ta)(hs:starEach [a] X.env=[(false,eval a X.env)]:=by rfl):PI X tg (.Call (.Name "range" p) [a] [] pos) (iRng1 ta):=by
 intro pins s σ H R I h
 refine Call_ (uI I hg hm boot_range (PyProof.Rows.callWith_type1 (thn (ha pos pins s σ H _ I h) fun us s1 z_=>?_) hs rfl))
 obtain⟨vs,H1,I1,r1,q1⟩:=z_
 obtain⟨j,e,q1,q2,q⟩:=q1
 subst e
 cases r1 with
 |cons r rr=>
  cases rr
  obtain⟨t,rfl⟩:=r
  exact call_range_1 (Gc I1 (by lia) (by lia) q1 q2 (by simpa using q))
noncomputable def tFor(wi:TI)(g:TG)(tb:TS):TS:=fun D σ H=>wi σ H fun J H1=>∃W:Nat→Nat→St→Hp→Prop,(∃m,W 0 m σ H1)∧∀i m σ H,W i m σ H →
 (J.stop i H∧D.nx σ H)∨(J.go i H∧∃N:St→Hp→Prop,(∀σ' H',N σ' H'→∃m',m'<m∧W (i+1) m' σ' H')∧∀x H',J.yld i H x H'→g x σ H' fun σ2 H2=>tb { D with nx:=N,ct:=N,bk:=D.nx } σ2 H2)
noncomputable def Yq(fp:List Addr)(h:Heap):List (Addr×Obj):=fp.filterMap fun b=>(h.get? b).map fun o=>(b,o)
theorem ua{fp:List Addr}{h:Heap}{b:Addr}{o:Obj}(hb:b∈fp)(e:h.get? b=some o):(b,o)∈Yq fp h:=List.mem_filterMap.mpr ⟨b,hb,by rw[e];rfl⟩
theorem Qe{fp:List Addr}{h:Heap}{p:Addr×Obj}(hp:p∈Yq fp h):p.1∈fp∧h.get? p.1=some p.2:=by
 obtain⟨b,hb,e⟩:=List.mem_filterMap.mp hp
 cases q:h.get? b with
 |none=>rw[q] at e;cases e
 |some o=>
  rw[q] at e
  have e':(b,o)=p:=Option.some.inj e
  subst e'
  exact⟨hb,q⟩
theorem Inv.pinned{pins:List (Addr×Obj)}{σ:St}{H:Hp}{s:Shared}{fp:List Addr}(I:Inv X pins σ H s)(hf:∀b∈fp,Xw X pins H b)(ho:∀b∈fp,∃o,s.heap.get? b=some o∧∀v,o.data≠.cell v):Inv X (pins++Yq fp s.heap) σ H s:=
 I.pins_of fun p hp=>(mem_append.mp hp).elim (fun z=>I.pin p (mem_append_right _ z)) fun z=>by
  obtain⟨hb,e⟩:=Qe z
  obtain⟨f0,f1,f2,_⟩:=hf p.1 hb
  obtain⟨o,e',d⟩:=ho p.1 hb
  rw[e] at e';cases e'
  exact⟨e,f0,f1,f2,d⟩
theorem Inv.unpinned{pins pl:List (Addr×Obj)}{σ:St}{H:Hp}{s:Shared}(I:Inv X (pins++pl) σ H s):Inv X pins σ H s:=I.pins_of fun p hp=>I.pin p (mem_append_right _ (mem_append_left _ hp))
theorem Uc{iter:Expr}{body:List Stmt}{wi:TI}{g:TG}{tb:TS}{pos:Pos}(hp:PassesOwn (model X.prog X.w) X.A X.env X.xe)(hc:X.calm=true)(hi:PI X tg iter wi)(hg:PG X tg g)(hb:PSs X body tb)
  (hs:∀x,foldedSetIterable iter X.env x=pure x:=by intro _;rfl):PS X (.For tg iter body [] pos) (tFor wi g tb):=by
 intro pins s σ H D I h
 refine wpAny_For (thn (hi pins s σ H _ I h) fun v s1 h1=>thn h1 fun itv s2 h2=>?_) hs
 obtain⟨it,fp,tn,J,H2,e,I2,T,st2,f2,W,⟨m0,w0⟩,turn⟩:=h2
 subst e
 have stat:∀{H':Hp},(∀b∈fp,H' b=none)→∀b∈fp,Xw X pins H' b:=fun hn b hb=>⟨hn b hb,(f2 b hb).2⟩
 refine codeAny_forLoop_any (fun n s'=>∃i σ' H',Inv X pins σ' H' s'∧tn i s'.heap∧(∀b∈fp,H' b=none)∧W i n σ' H') ?_ m0 ⟨0,σ,H2,I2,st2,fun b hb=>(f2 b hb).1,w0⟩
 rintro n s3 ⟨i,σ3,H3,I3,st3,fr3,w3⟩
 rcases turn i n σ3 H3 w3 with ⟨stop,qn⟩|⟨go,N,hN,step⟩
 ·refine wpAny_passesOwn hp (thn (T.done X rfl rfl rfl hc i pins s3 σ3 H3 X.xe I3 (stat fr3) st3 stop) fun r s4 z_=>?_)
  obtain⟨hr,I4⟩:=z_
  subst hr
  exact wpAny_execs_nil ⟨σ3,H3,I4,qn⟩
 ·refine wpAny_passesOwn hp (thn (T.item X rfl rfl rfl hc i pins s3 σ3 H3 X.xe I3 (stat fr3) st3 go) fun r s4 z_=>?_)
  obtain⟨u,hr,h4⟩:=z_
  subst hr
  refine wpAny_passesOwn hp (thn h4 fun _ s5 z_=>?_)
  obtain⟨x,H5,I5,r5,y5,st5,fr5⟩:=z_
  have I5':=I5.pinned (stat fr5) (T.obj _ _ st5)
  refine wpAny_passesOwn hp (thn (hg _ s5 σ3 H5 x u _ I5' r5 (step x H5 y5)) fun _ s6 z_=>?_)
  obtain⟨σ6,H6,I6,q6⟩:=z_
  refine wpAny_passesOwn hp (thn (hb _ s6 σ6 H6 _ I6 q6) fun f s7 q7=>?_)
  have again:∀{σ7:St} {H7:Hp},Inv X (pins++Yq fp s5.heap) σ7 H7 s7→N σ7 H7→∃m,m<n∧∃i σ' H',Inv X pins σ' H' s7∧tn i s7.heap∧(∀b∈fp,H' b=none)∧W i m σ' H':=fun {σ7 H7} I7 n7=>by
   obtain⟨m',hm,w7⟩:=hN σ7 H7 n7
   refine⟨m',hm,i+1,σ7,H7,I7.unpinned,T.keep _ _ _ st5 fun b hb o e=>(I7.pin (b,o) (mem_append_right _ (mem_append_right _ (ua hb e)))).1,fun b hb=>?_,w7⟩
   obtain⟨o,e,d⟩:=T.obj _ _ st5 b hb
   exact(I7.pin (b,o) (mem_append_right _ (mem_append_right _ (ua hb e)))).2.1
  cases f with
  |next=>obtain⟨σ7,H7,I7,n7⟩:=q7;exact again I7 n7
  |cont=>obtain⟨σ7,H7,I7,n7⟩:=q7;exact again I7 n7
  |brk=>obtain⟨σ7,H7,I7,q7⟩:=q7;exact⟨σ7,H7,I7.unpinned,q7⟩
  |ret v=>obtain⟨x7,σ7,H7,I7,r7,q7⟩:=q7;exact⟨x7,σ7,H7,I7.unpinned,r7,q7⟩
end
noncomputable abbrev R2:=V→V→Hp→VK→Prop
noncomputable def OpR(X:Cx)(f:Value→Value→Sem Value)(r:R2):Prop:=
 ∀(pins:List (Addr×Obj)) (s:Shared) (σ:St) (H:Hp) (x y:V) (v u:Value) (Q:VK),Inv X pins σ H s→RelV x v→RelV y u→r x y H Q →
  wpAny (model X.prog X.w) X.A (f v u) (EP X pins σ Q) X.xe s
noncomputable def UnR(X:Cx)(f:Value→Sem Value)(r:V→Hp→VK→Prop):Prop:=
 ∀(pins:List (Addr×Obj)) (s:Shared) (σ:St) (H:Hp) (x:V) (v:Value) (Q:VK),Inv X pins σ H s→RelV x v→r x H Q →
  wpAny (model X.prog X.w) X.A (f v) (EP X pins σ Q) X.xe s
noncomputable def CallR(X:Cx)(f:Value)(r:List V→Hp→VK→Prop):Prop:=
 ∀(pins:List (Addr×Obj)) (s:Shared) (σ:St) (H:Hp) (xs:List V) (us:List Value) (Q:VK),Inv X pins σ H s→Vals xs us→r xs H Q →
  wpAny (model X.prog X.w) X.A (call f us) (EP X pins σ Q) X.xe s
noncomputable def TruR(X:Cx)(r:V→Hp→(Bool→Hp→Prop)→Prop):Prop:=
 ∀(pins:List (Addr×Obj)) (s:Shared) (σ:St) (H:Hp) (x:V) (v:Value) (Q:Bool→Hp→Prop),Inv X pins σ H s→RelV x v→r x H Q →
  wpAny (model X.prog X.w) X.A (truthy v) (TP X pins σ Q) X.xe s
noncomputable def tOp(r:R2)(ta tb:TE):TE:=fun σ H Q=>ta σ H fun x H1=>tb σ H1 fun y H2=>r x y H2 Q
noncomputable def tUn(r:V→Hp→VK→Prop)(ta:TE):TE:=fun σ H Q=>ta σ H fun x H1=>r x H1 Q
noncomputable def rI(C:Int→Int→Prop)(g:Int→Int→V):R2:=fun x y H Q=>∃i j,x=.int i∧y=.int j∧C i j∧Q (g i j) H
noncomputable def rI0(g:Int→Int→V):R2:=fun x y H Q=>∃i j,x=.int i∧y=.int j∧Q (g i j) H
noncomputable def rU(g:Int→V):V→Hp→VK→Prop:=fun x H Q=>∃i,x=.int i∧Q (g i) H
section
variable{X:Cx}{a b c:Expr}{ta tb tc:TE}{pos:Pos}
theorem zi1(ha:PE X a ta)(hb:PE X b tb){pins:List (Addr×Obj)}{s:Shared}{σ:St}{H:Hp}{R:V→V→Hp→Prop}(I:Inv X pins σ H s)
  (h:ta σ H fun x H1=>tb σ H1 fun y H2=>R x y H2) {Q:Value→Shared→Prop} {f:Value→Value→Sem Value}
  (hf:∀v u s2 x y H2,Inv X pins σ H2 s2→RelV x v→RelV y u→R x y H2→wpAny (model X.prog X.w) X.A (f v u) Q X.xe s2) :
  wpAny (model X.prog X.w) X.A (eval a X.env) (fun v s₁=>wpAny (model X.prog X.w) X.A (eval b X.env) (fun u s₂=>wpAny (model X.prog X.w) X.A (f v u) Q X.xe s₂) X.xe s₁) X.xe s:=by
 refine thn (ha pins s σ H _ I h) fun v s1 z_=>?_
 obtain⟨x,H1,I1,r1,q1⟩:=z_
 refine thn (hb pins s1 σ H1 _ I1 q1) fun u s2 z_=>?_
 obtain⟨y,H2,I2,r2,q2⟩:=z_
 exact hf v u s2 x y H2 I2 r1 r2 q2
theorem LS{op:Operator}{r:R2}(ho:OpR X (binaryOp op) r)(ha:PE X a ta)(hb:PE X b tb):PE X (.BinOp a op b pos) (tOp r ta tb):=by
 intro pins s σ H Q I h
 exact wpAny_BinOp (zi1 ha hb I h fun v u s2 x y H2 I2 rx ry q=>ho pins s2 σ H2 x y v u Q I2 rx ry q)
theorem pe_un{op:UnaryOp}{r:V→Hp→VK→Prop}(ho:UnR X (unaryOp op) r)(ha:PE X a ta):PE X (.UnaryOp op a pos) (tUn r ta):=by
 intro pins s σ H Q I h
 exact UnaryOp_ (thn (ha pins s σ H _ I h) fun v s1 ⟨x,H1,I1,r1,q1⟩=>ho pins s1 σ H1 x v Q I1 r1 q1)
theorem opI{f:Value→Value→Sem Value}{C:Int→Int→Prop}{g:Int→Int→Int}
  (rule:∀(i j:Int) (t u:Tok) (s:Shared) (Q:Value→Shared→Prop) (E:Value→Shared→Prop),C i j→Q (.int (g i j) s.toks) { s with toks:=s.toks+1 }→wpAny (model X.prog X.w) X.A (f (.int i t) (.int j u)) Q E s) :
  OpR X f (rI C fun i j=>.int (g i j)):=by
 intro pins s σ H x y v u Q I rx ry h
 obtain⟨i,j,rfl,rfl,hc,q⟩:=h
 obtain⟨t,rfl⟩:=rx
 obtain⟨t',rfl⟩:=ry
 exact rule i j t t' s _ _ hc ⟨.int (g i j),H,I.tok _,⟨_,rfl⟩,q⟩
theorem opI0{f:Value→Value→Sem Value}{g:Int→Int→Int}
  (rule:∀(i j:Int) (t u:Tok) (s:Shared) (Q:Value→Shared→Prop) (E:Value→Shared→Prop),Q (.int (g i j) s.toks) { s with toks:=s.toks+1 }→wpAny (model X.prog X.w) X.A (f (.int i t) (.int j u)) Q E s) :
  OpR X f (rI0 fun i j=>.int (g i j)):=by
 intro pins s σ H x y v u Q I rx ry h
 obtain⟨i,j,rfl,rfl,q⟩:=h
 obtain⟨t,rfl⟩:=rx
 obtain⟨t',rfl⟩:=ry
 exact rule i j t t' s _ _ ⟨.int (g i j),H,I.tok _,⟨_,rfl⟩,q⟩
theorem opB0{f:Value→Value→Sem Value}{g:Int→Int→Bool}
  (rule:∀(i j:Int) (t u:Tok) (s:Shared) (Q:Value→Shared→Prop) (E:Value→Shared→Prop),Q (.bool (g i j)) s→wpAny (model X.prog X.w) X.A (f (.int i t) (.int j u)) Q E s) :
  OpR X f (rI0 fun i j=>.bl (g i j)):=by
 intro pins s σ H x y v u Q I rx ry h
 obtain⟨i,j,rfl,rfl,q⟩:=h
 obtain⟨t,rfl⟩:=rx
 obtain⟨t',rfl⟩:=ry
 exact rule i j t t' s _ _ ⟨.bl (g i j),H,I,rfl,q⟩
noncomputable def CDiv(i j:Int):Prop:=0<j∧j<1073741824
noncomputable def CMul(i j:Int):Prop:=(-(2 ^ 64)<i∧i<2 ^ 64)∨(-(2 ^ 64)<j∧j<2 ^ 64)
theorem CMul.ok{i j:Int}(h:CMul i j):IntMulOk i j:=by
 rcases h with ⟨h1,h2⟩|⟨h1,h2⟩
 ·exact .of_left (intBits_le_64 h1 h2)
 ·exact .of_right (intBits_le_64 h1 h2)
theorem op_add:OpR X (binaryOp .Add) (rI0 fun i j=>.int (i+j)):=opI0 fun _ _ _ _ _ _ _ q=>add_int q
theorem zd4:OpR X (binaryOp .Sub) (rI0 fun i j=>.int (i-j)):=opI0 fun _ _ _ _ _ _ _ q=>sub_int q
theorem op_mul:OpR X (binaryOp .Mult) (rI CMul fun i j=>.int (i*j)):=opI fun _ _ _ _ _ _ _ hc q=>mul_int q hc.ok
theorem TR:OpR X (binaryOp .FloorDiv) (rI CDiv fun i j=>.int (i / j)):=opI fun i j _ _ _ _ _ hc q=>by
 have h1:(0:Int)<j:=hc.1
 have h2:j<1073741824:=hc.2
 exact floordiv_int (by lia) (by rw[Int.fdiv_eq_ediv_of_nonneg i (by lia)];exact q) (.inl (PyProof.noPylong_small (by lia)))
theorem zd6:OpR X (binaryOp .Mod) (rI (fun _ j=>0<j) fun i j=>.int (i%j)):=opI fun i j _ _ _ _ _ hc q=>by
 have h1:(0:Int)<j:=hc
 exact mod_int' (by lia) (by rw[Int.fmod_eq_emod_of_nonneg i (by lia)];exact q)
theorem unI{f:Value→Sem Value}{g:Int→Int}
  (rule:∀(i:Int) (t:Tok) (s:Shared) (Q:Value→Shared→Prop) (E:Value→Shared→Prop),Q (.int (g i) s.toks) { s with toks:=s.toks+1 }→wpAny (model X.prog X.w) X.A (f (.int i t)) Q E s) :
  UnR X f (rU fun i=>.int (g i)):=by
 intro pins s σ H x v Q I rx h
 obtain⟨i,rfl,q⟩:=h
 obtain⟨t,rfl⟩:=rx
 exact rule i t s _ _ ⟨.int (g i),H,I.tok _,⟨_,rfl⟩,q⟩
theorem za1:UnR X (unaryOp .USub) (rU fun i=>.int (-i)):=unI fun _ _ _ _ _ q=>neg_int q
end
noncomputable def scal:V→V→Bool
 |.non,.non=>true | .non,.int _=>true | .int _,.non=>true | .non,.bl _=>true | .bl _,.non=>true | .non,.str _=>true | .str _,.non=>true
 |.int _,.int _=>true | .bl _,.bl _=>true | .str _,.str _=>true | .byt _,.byt _=>true
 |.int _,.str _=>true | .str _,.int _=>true | .bl _,.str _=>true | .str _,.bl _=>true
 |_,_=>false
noncomputable def rEq:R2:=fun x y H Q=>scal x y=true∧Q (.bl (decide (x=y))) H
noncomputable def rNe:R2:=fun x y H Q=>scal x y=true∧Q (.bl (!decide (x=y))) H
theorem Ye{i j:Int}:decide (V.int i=V.int j)=(i==j):=by
 rw[Bool.eq_iff_iff]
 simp
theorem ME{i j:Bool}:decide (V.bl i=V.bl j)=(i==j):=by
 rw[Bool.eq_iff_iff]
 simp
theorem Yd{i j:Str}:decide (V.str i=V.str j)=(i==j):=by
 rw[Bool.eq_iff_iff]
 simp
theorem JK{i j:Array UInt8}:decide (V.byt i=V.byt j)=(i.toList==j.toList):=by
 rw[Bool.eq_iff_iff]
 cases i
 cases j
 simp
section
variable{X:Cx}{a b c:Expr}{ta tb tc:TE}{pos:Pos}
theorem ye{pins:List (Addr×Obj)}{σ:St}{H:Hp}{s:Shared}{Q:VK}{k k':Bool}(I:Inv X pins σ H s)(q:Q (.bl k) H)(e:k=k'):EP X pins σ Q (.bool k') s:=by
 subst e
 exact⟨.bl k,H,I,rfl,q⟩
theorem op_eq:OpR X (compareOp .Eq) rEq:=by
 intro pins s σ H x y v u Q I rx ry h
 obtain⟨hs,q⟩:=h
 cases x with
 |non=>
  cases rx
  cases y with
  |non=>cases ry;exact PySem.EqNone.eq_none_none (ye I q (by simp))
  |bl j=>cases ry;exact PySem.EqNone.eq_none_bool (ye I q (by simp))
  |int j=>obtain⟨t',rfl⟩:=ry;exact PySem.EqNone.eq_none_int (ye I q (by simp))
  |str j=>obtain⟨t',rfl⟩:=ry;exact PySem.EqNone.eq_none_str (ye I q (by simp))
  |_=>exact absurd (show false=true from hs) Bool.false_ne_true
 |bl i=>
  cases rx
  cases y with
  |non=>cases ry;exact PySem.EqNone.eq_bool_none (ye I q (by simp))
  |bl j=>cases ry;exact eq_bool (ye I q ME)
  |str j=>obtain⟨t',rfl⟩:=ry;exact PySem.EqMixed.eq_bool_str (ye I q (by simp))
  |_=>exact absurd (show false=true from hs) Bool.false_ne_true
 |int i=>
  obtain⟨t,rfl⟩:=rx
  cases y with
  |non=>cases ry;exact PySem.EqNone.eq_int_none (ye I q (by simp))
  |int j=>obtain⟨t',rfl⟩:=ry;exact eq_int (ye I q Ye)
  |str j=>obtain⟨t',rfl⟩:=ry;exact PySem.EqMixed.eq_int_str (ye I q (by simp))
  |_=>exact absurd (show false=true from hs) Bool.false_ne_true
 |str i=>
  obtain⟨t,rfl⟩:=rx
  cases y with
  |non=>cases ry;exact PySem.EqNone.eq_str_none (ye I q (by simp))
  |bl j=>cases ry;exact PySem.EqMixed.eq_str_bool (ye I q (by simp))
  |int j=>obtain⟨t',rfl⟩:=ry;exact PySem.EqMixed.eq_str_int (ye I q (by simp))
  |str j=>obtain⟨t',rfl⟩:=ry;exact eq_str (ye I q Yd)
  |_=>exact absurd (show false=true from hs) Bool.false_ne_true
 |byt i=>
  obtain⟨t,rfl⟩:=rx
  cases y with
  |byt j=>obtain⟨t',rfl⟩:=ry;exact PySem.W.eq_bytes (ye I q JK)
  |_=>exact absurd (show false=true from hs) Bool.false_ne_true
 |_=>cases y <;> exact absurd (show false=true from hs) Bool.false_ne_true
theorem op_ne:OpR X (compareOp .NotEq) rNe:=by
 intro pins s σ H x y v u Q I rx ry h
 obtain⟨hs,q⟩:=h
 cases x with
 |non=>
  cases rx
  cases y with
  |non=>cases ry;exact PySem.EqNone.ne_none_none (ye I q (by simp))
  |bl j=>cases ry;exact PySem.EqNone.ne_none_bool (ye I q (by simp))
  |int j=>obtain⟨t',rfl⟩:=ry;exact PySem.EqNone.ne_none_int (ye I q (by simp))
  |str j=>obtain⟨t',rfl⟩:=ry;exact PySem.EqNone.ne_none_str (ye I q (by simp))
  |_=>exact absurd (show false=true from hs) Bool.false_ne_true
 |bl i=>
  cases rx
  cases y with
  |non=>cases ry;exact PySem.EqNone.ne_bool_none (ye I q (by simp))
  |bl j=>cases ry;exact ne_bool (ye I q (congrArg not ME))
  |str j=>obtain⟨t',rfl⟩:=ry;exact PySem.EqMixed.ne_bool_str (ye I q (by simp))
  |_=>exact absurd (show false=true from hs) Bool.false_ne_true
 |int i=>
  obtain⟨t,rfl⟩:=rx
  cases y with
  |non=>cases ry;exact PySem.EqNone.ne_int_none (ye I q (by simp))
  |int j=>obtain⟨t',rfl⟩:=ry;exact ne_int (ye I q (congrArg not Ye))
  |str j=>obtain⟨t',rfl⟩:=ry;exact PySem.EqMixed.ne_int_str (ye I q (by simp))
  |_=>exact absurd (show false=true from hs) Bool.false_ne_true
 |str i=>
  obtain⟨t,rfl⟩:=rx
  cases y with
  |non=>cases ry;exact PySem.EqNone.ne_str_none (ye I q (by simp))
  |bl j=>cases ry;exact PySem.EqMixed.ne_str_bool (ye I q (by simp))
  |int j=>obtain⟨t',rfl⟩:=ry;exact PySem.EqMixed.ne_str_int (ye I q (by simp))
  |str j=>obtain⟨t',rfl⟩:=ry;exact ne_str (ye I q (congrArg not Yd))
  |_=>exact absurd (show false=true from hs) Bool.false_ne_true
 |byt i=>
  obtain⟨t,rfl⟩:=rx
  cases y with
  |byt j=>obtain⟨t',rfl⟩:=ry;exact PySem.W.ne_bytes (ye I q (congrArg not JK))
  |_=>exact absurd (show false=true from hs) Bool.false_ne_true
 |_=>cases y <;> exact absurd (show false=true from hs) Bool.false_ne_true
theorem op_lt:OpR X (compareOp .Lt) (rI0 fun i j=>.bl (decide (i<j))):=opB0 fun _ _ _ _ _ _ _ q=>lt_int q
theorem op_gt:OpR X (compareOp .Gt) (rI0 fun i j=>.bl (decide (j<i))):=opB0 fun _ _ _ _ _ _ _ q=>gt_int q
theorem op_in_str:OpR X (compareOp .In) (fun x y H Q=>∃i j,x=.str i∧y=.str j∧Q (.bl (!(Builtin.Str.occurrences j i 0 j.length 1).isEmpty)) H):=by
 intro pins s σ H x y v u Q I rx ry h
 obtain⟨i,j,rfl,rfl,q⟩:=h
 obtain⟨t,rfl⟩:=rx
 obtain⟨t',rfl⟩:=ry
 exact in_str (ye I q rfl)
theorem zd7:OpR X (compareOp .Is) (fun x y H Q=>y=.non∧Q (.bl (decide (x=.non))) H):=by
 intro pins s σ H x y v u Q I rx ry h
 obtain⟨rfl,q⟩:=h
 cases ry
 refine is_none_gen (ye I q ?_)
 cases x <;> first
  | (cases rx;rfl)
  | (obtain⟨t,rfl⟩:=rx;rfl)
theorem TQ:OpR X (compareOp .IsNot) (fun x y H Q=>y=.non∧Q (.bl (!decide (x=.non))) H):=by
 intro pins s σ H x y v u Q I rx ry h
 obtain⟨rfl,q⟩:=h
 cases ry
 refine isnot_none_gen (ye I q ?_)
 cases x <;> first
  | (cases rx;rfl)
  | (obtain⟨t,rfl⟩:=rx;rfl)
theorem op_notin_str:OpR X (compareOp .NotIn) (fun x y H Q=>∃i j,x=.str i∧y=.str j∧Q (.bl (!(!(Builtin.Str.occurrences j i 0 j.length 1).isEmpty))) H):=by
 intro pins s σ H x y v u Q I rx ry h
 obtain⟨i,j,rfl,rfl,q⟩:=h
 obtain⟨t,rfl⟩:=rx
 obtain⟨t',rfl⟩:=ry
 exact notIn_str (ye I q rfl)
theorem OpR.or{f:Value→Value→Sem Value}{r r':R2}(h:OpR X f r)(h':OpR X f r'):OpR X f (fun x y H Q=>r x y H Q∨r' x y H Q):=by
 intro pins s σ H x y v u Q I rx ry q
 rcases q with q|q
 ·exact h pins s σ H x y v u Q I rx ry q
 ·exact h' pins s σ H x y v u Q I rx ry q
theorem yA(b:Expr){op:CmpOp}(h:op≠.In:=by decide)(h2:op≠.NotIn:=by decide):behindInMarks op b=false:=by
 have e1:(op==CmpOp.In)=false:=by cases op <;> first|rfl|exact absurd rfl h
 have e2:(op==CmpOp.NotIn)=false:=by cases op <;> first|rfl|exact absurd rfl h2
 cases b <;> simp[behindInMarks,e1,e2]
theorem Tz{op:CmpOp}{r:R2}(ho:OpR X (compareOp op) r)(ha:PE X a ta)(hb:PE X b tb)(hm:behindInMarks op b=false):PE X (.Compare a [op] [b] pos) (tOp r ta tb):=by
 intro pins s σ H Q I h
 exact wpAny_Compare1 (zi1 ha hb I h fun v u s2 x y H2 I2 rx ry q=>ho pins s2 σ H2 x y v u Q I2 rx ry q) hm
noncomputable def LN(t:TE):TT:=fun σ H Q=>t σ H fun x H'=>∃k,x=.bl k∧Q k H'
theorem U2{op:CmpOp}{r:R2}(ho:OpR X (compareOp op) r)(ha:PE X a ta)(hb:PE X b tb)(hm:behindInMarks op b=false):PT X (.Compare a [op] [b] pos) (LN (tOp r ta tb)):=by
 intro pins s σ H Q I h
 refine wpAny_isTrue_Compare1 (thn (ha pins s σ H _ I h) fun v s1 ⟨x,H1,I1,r1,q1⟩=>thn (hb pins s1 σ H1 _ I1 q1) fun u s2 ⟨y,H2,I2,r2,q2⟩=>
  thn (ho pins s2 σ H2 x y v u _ I2 r1 r2 q2) fun c s3 ⟨z,H3,I3,r3,k,e,q3⟩=>?_) hm
 subst e
 cases r3
 exact wpAny_truthy_bool ⟨H3,I3,q3⟩
noncomputable def zi8(K:Frag)(x:V)(H:Hp)(k:Bool):Prop:=
 match x with
 |.non=>k=false
 |.bl b=>k=b
 |.int i=>k=(i != 0)
 |.str y=>y.length≤sizeLine∧k=((y.length:Int) != 0)
 |.byt y=>y.size≤sizeLine∧k=((y.size:Int) != 0)
 |.ref p=>(∃xs,SqL K H p xs∧k = !xs.isEmpty)∨(∃xs,SqT K H p xs∧k = !xs.isEmpty)∨∃kvs,H p=some (.dK kvs)∧k = !kvs.isEmpty
 |_=>False
theorem Us{κ:Type}{kvs:List (κ×V)}{vs:List (κ×Value)}(r:KV kvs vs):(!vs.isEmpty) = !kvs.isEmpty:=by
 cases r <;> rfl
theorem YO{xs:List V}{its:List Value}(r:Vals xs its):(!its.toArray.isEmpty) = !xs.isEmpty:=by
 cases r <;> simp
theorem jz:(sizeLine:Nat)<2 ^ 63:=by rw[sizeLine_eq];decide
theorem tru_ok:TruR X (fun x H Q=>∃k,zi8 X.K x H k∧Q k H):=by
 intro pins s σ H x v Q I rx h
 obtain⟨k,e,q⟩:=h
 have hl:=jz
 have hs:sizeLine=16777216:=sizeLine_eq
 cases x with
 |non=>
  cases rx
  have e':k=false:=e
  subst e'
  exact truthy_none ⟨H,I,q⟩
 |bl b=>
  cases rx
  have e':k=b:=e
  subst e'
  exact wpAny_truthy_bool ⟨H,I,q⟩
 |int i=>
  obtain⟨t,rfl⟩:=rx
  have e':k=(i != 0):=e
  subst e'
  exact PySem.P.truthy_int ⟨H,I,q⟩
 |str y=>
  obtain⟨t,rfl⟩:=rx
  obtain⟨hy,e'⟩:y.length≤sizeLine∧k=((y.length:Int) != 0):=e
  subst e'
  exact PySem.P.truthy_str (by lia) ⟨H,I.tok _,q⟩
 |byt y=>
  obtain⟨t,rfl⟩:=rx
  obtain⟨hy,e'⟩:y.size≤sizeLine∧k=((y.size:Int) != 0):=e
  subst e'
  exact PySem.W.truthy_bytes (by lia) ⟨H,I.tok _,q⟩
 |ref p=>
  cases rx
  have e':(∃xs,SqL X.K H p xs∧k = !xs.isEmpty)∨(∃xs,SqT X.K H p xs∧k = !xs.isEmpty)∨∃kvs,H p=some (.dK kvs)∧k = !kvs.isEmpty:=e
  rcases e' with ⟨xs,hx,e'⟩|⟨xs,hx,e'⟩|⟨kvs,hx,e'⟩
  ·subst e'
   obtain⟨its,r,pl,hz⟩:=I.list hx
   have hlen:=r.length
   exact wpAny_truthy_list pl.isList (by simp only[size_toArray];lia) ⟨H,I.tok _,by rw[YO r];exact q⟩
  ·subst e'
   obtain⟨its,r,pl,hz⟩:=I.tuple hx
   have hlen:=r.length
   exact truthy_tuple pl (by simp only[size_toArray];lia) ⟨H,I.tok _,by rw[YO r];exact q⟩
  ·subst e'
   obtain⟨hz,hS,vs,r,m⟩:kvs.length≤sizeLine∧(p==sysModules)=false∧∃vs,KV kvs vs∧s.heap.DictOf (yD X.prog X.w) p vs:=I.hok p _ hx
   have hlen:kvs.length=vs.length:=Paired.length r
   exact wpAny_truthy_dict hS m (by lia) ⟨H,I.tok _,by rw[Us r];exact q⟩
 |_=>exact(show False from e).elim
theorem Gh(ha:PE X a ta)(he:∀whole,isTrue a X.env whole=(do let v ← whole;standAt a.pos;holding [v] (truthy v))) :
  PT X a (fun σ H Q=>ta σ H fun x H'=>∃k,zi8 X.K x H' k∧Q k H'):=by
 intro pins s σ H Q I h
 exact isTrue_plain (thn (ha pins s σ H _ I h) fun v s1 ⟨x,H1,I1,r1,q1⟩=>tru_ok pins s1 σ H1 x v Q I1 r1 q1) (he _)
theorem op_add_str:OpR X (binaryOp .Add) (fun x y H Q=>∃i j,x=.str i∧y=.str j∧i.length+j.length≤sizeLine∧Q (.str (i++j)) H):=by
 intro pins s σ H x y v u Q I rx ry h
 obtain⟨i,j,rfl,rfl,hz,q⟩:=h
 obtain⟨t,rfl⟩:=rx
 obtain⟨t',rfl⟩:=ry
 exact add_str (fun t' tk=>⟨.str (i++j),H,I.tok _,⟨_,rfl⟩,q⟩) hz
theorem vals1{x:V}{us:List Value}(r:Vals [x] us):∃u,us=[u]∧RelV x u:=by
 cases r with
 |cons r1 r2=>cases r2;exact⟨_,rfl,r1⟩
theorem vals2{x y:V}{us:List Value}(r:Vals [x,y] us):∃u w',us=[u,w']∧RelV x u∧RelV y w':=by
 cases r with
 |cons r1 r2=>
  cases r2 with
  |cons r3 r4=>cases r4;exact⟨_,_,rfl,r1,r3⟩
theorem QH(hc:X.calm=true):CallR X (.builtin "max") (fun xs H Q=>∃i j,xs=[.int i,.int j]∧Q (.int (if j > i then j else i)) H):=by
 intro pins s σ H xs us Q I r h
 obtain⟨i,j,rfl,q⟩:=h
 obtain⟨u,w',rfl,⟨t,rfl⟩,⟨t',rfl⟩⟩:=vals2 r
 refine max_two_ints (I.ok.hd hc) fun h' tk k=>⟨_,H,I.kept k,?_,q⟩
 by_cases hj:j > i
 ·rw[if_pos hj,if_pos hj];exact⟨_,rfl⟩
 ·rw[if_neg hj,if_neg hj];exact⟨_,rfl⟩
theorem QG(hc:X.calm=true):CallR X (.builtin "min") (fun xs H Q=>∃i j,xs=[.int i,.int j]∧Q (.int (if j<i then j else i)) H):=by
 intro pins s σ H xs us Q I r h
 obtain⟨i,j,rfl,q⟩:=h
 obtain⟨u,w',rfl,⟨t,rfl⟩,⟨t',rfl⟩⟩:=vals2 r
 refine min_two_ints (I.ok.hd hc) fun h' tk k=>⟨_,H,I.kept k,?_,q⟩
 by_cases hj:j<i
 ·rw[if_pos hj,if_pos hj];exact⟨_,rfl⟩
 ·rw[if_neg hj,if_neg hj];exact⟨_,rfl⟩
end
structure ObjM(h:Heap)(x dx C:Addr)(mA:Str→Option Value):Prop where
 obj:h.get? x=some (instObj C dx)
 ns:h.Ns1 dx mA
 ne:dx≠x
theorem Qj{h:Heap}{dx:Addr}{mA:Str→Option Value}(n:h.Ns1 dx mA):∃od,h.get? dx=some od∧∀name,lookIn name od=some (mA name):=by
 obtain⟨o,es,ep,ho,hd,hk,_,hm⟩:=n
 refine⟨o,ho,fun name=>?_⟩
 have e:=hm name
 unfold nsFind findBy at e
 rw[← Array.find?_toList] at e
 unfold lookIn
 rw[hd]
 dsimp only
 split
 ·rename_i y q
  rw[q] at e
  exact congrArg some e
 ·rename_i q
  rw[q] at e
  have a:es.toList.any (·.refKey)=false:=by
   rw[List.any_eq_false]
   intro y hy
   obtain⟨z,t,hkey⟩:=hk y (Array.mem_toList_iff.mp hy)
   simp[DictEntry.refKey,hkey]
  have a':¬ es.toList.any (·.refKey)=true:=by rw[a];exact Bool.false_ne_true
  rw[if_neg a']
  exact congrArg some e
theorem ObjM.look{h:Heap}{x dx C:Addr}{mA:Str→Option Value}(I:ObjM h x dx C mA):∃od,PySem.W.InstAt h x (instObj C dx) C (some od)∧∀name,lookIn name od=some (mA name):=
 let ⟨od,ho,hl⟩:=Qj I.ns
 ⟨od,⟨I.obj,rfl,rfl,ho⟩,hl⟩
section
variable{prog:Program}{w:World}{A:Around}{E:Value→Shared→Prop}{s:Shared}{K:Frag}{x dx C f:Addr}{mA:Str→Option Value}{name:Str}{v:Value}
theorem Lq{expr:Bool}{Q:Value→Shared→Prop}(X:K.In s.heap)(I:ObjM s.heap x dx C mA)(hg:plainGet K C name=true)(hh:hasDictIn K C=true)
  (ha:findIn K (.ref C) name=some none) (hv:mA name=some v) (hv':PySem.W.handedIn v=true) (h:Q v { s with toks:=s.toks+1 }) :
  wpAny (model prog w) A (getAttr (.ref x) name expr) Q E s:=by
 obtain⟨od,J,hl⟩:=I.look
 exact PySem.W.get_value X J (plainGet_of hg).1 (PySem.W.findObj_own hh ha rfl (by rw[hl,hv])) hv' h
theorem Ml{pl:Sem Bool}{Q:Value×List Value→Shared→Prop}(X:K.In s.heap)(I:ObjM s.heap x dx C mA)(hg:plainGet K C name=true)
  (hf:findIn K (.ref C) name=some (some (.ref f))) (ht:isFn K (.ref f)=true) (hv:mA name=none) (h:Q (.ref f,[.ref x]) s) :
  wpAny (model prog w) A (getMethod (.ref x) name pl) Q E s:=by
 obtain⟨od,J,hl⟩:=I.look
 exact PySem.W.method_fn X J (plainGet_of hg).1 (plainGet_of hg).2 hf (beq_iff_eq.mp ht) (by show(lookIn name od).map (·.isSome)=some false;rw[hl,hv];rfl) h
theorem M4{ns:List Str}{Q:Unit→Shared→Prop}(X:K.In s.heap)(I:ObjM s.heap x dx C mA)
  (hs:findIn K (.ref C) "__setattr__" = some (some (.builtin "object.__setattr__"))) (hp:plainOver K C=true) (ht:takerIn K C name=some none) (hh:hasDictIn K C=true)
  (hw:PySem.Within mA ns) (hsz:ns.length≤sizeLine)
  (h:∀h',ObjM h' x dx C (fun y=>if y=name then some v else mA y)→Heap.SameBut dx s.heap h'→Q () { s with heap:=h',toks:=s.toks+2 }) :
  wpAny (model prog w) A (setAttr (.ref x) name v) Q E s:=by
 obtain⟨od,J,hl⟩:=I.look
 refine PySem.W.set_plain X J hs (PySem.W.osa_open (s:={ s with toks:=s.toks+1 }) (r:=none) X J hp ht fun b=>?_)
 obtain⟨cd,hc,hd'⟩:=PySem.W.any_some hh
 have hx:s.heap.get? x=some ⟨.ref C,some dx,.plain,#[]⟩:=I.obj
 refine wpAny_bind (wpAny_pure (wpAny_bind (wpAny_bind (wpAny_loadPart hx (wpAny_bind (PySem.W.Looks.here (s:={ s with toks:=s.toks+1 }) (PySem.W.looks_clsIn X hc) ?_))))))
 rw[hd']
 refine wpAny_pure (a:=some dx) (wpAny_bind (wpAny_pure (wpAny_bind ?_)))
 refine wpAny_nsSet1 (s:={ s with toks:=s.toks+1 }) I.ns fun h' hn2 hs2=>?_
 obtain⟨oD,esD,epD,hoD,hdD,hcD⟩:=hn2.count (PySem.Within.cons name v hw)
 refine wpAny_bind (wpAny_lookBehind hoD (by rw[hdD];exact pastItsLine_dict (le_trans hcD (by rw[length_cons];lia))) ?_)
 exact wpAny_pure (h _ ⟨(hs2.2 _ (Ne.symm I.ne)).trans I.obj,hn2,I.ne⟩ hs2)
theorem GX{R:Result→Shared→Prop}{vs:List Value}{kw:List (Str×Value)}(X:K.In s.heap)(hm:makesIn K C=true)
  (hi:findIn K (.ref C) "__init__" = some (some (.ref f))) (hf:PySem.W.typeIn K (.ref f)=some (.type "function"))
  (h:codeAny (model prog w) (A.under (.builtin "type.__call__" ⟨.ref C::vs,kw⟩)) (.call (.ref f) ⟨.ref (s.heap.objs.size+1)::vs,kw⟩) (PySem.W.InitBack (s.heap.objs.size+1) R)
   { s with heap:=(s.heap.push emptyDict).push (instObj C s.heap.objs.size) }) :
  codeAny (model prog w) A (.call (.ref C) ⟨vs,kw⟩) R s:=by
 obtain⟨hh,g,d,t,os⟩:=s
 exact PySem.W.make_core (PySem.W.makes_of X hm) (PySem.W.looks_findIn X hi) (fun self=>PySem.W.bind_fn X self hf) (.inl rfl) h
end
noncomputable def wx(f:Str)(v:V):List (Str×V)→List (Str×V)
 |[]=>[(f,v)]
 | (g,x)::r=>if g=f then (g,v)::r else (g,x)::wx f v r
theorem ZF(f g:Str)(v:V):∀fs:List (Str×V),(wx f v fs).lookup g=if g=f then some v else fs.lookup g:=by
 intro l_
 induction l_ with
 |nil=>
  show List.lookup g [(f,v)]=_
  by_cases h:g=f
  ·have hb:(g==f)=true:=beq_iff_eq.mpr h
   simp only[List.lookup,hb,if_pos h]
  ·have hb:(g==f)=false:=beq_eq_false_iff_ne.mpr h
   simp only[List.lookup,hb,if_neg h]
 |cons p_ r ih_=>
  obtain⟨k,x⟩:=p_
  have ih:=ih_
  rw[show wx f v ((k,x)::r)=(if k=f then (k,v)::r else (k,x)::wx f v r) from rfl]
  by_cases hk:k=f
  ·rw[if_pos hk]
   by_cases h:g=k
   ·have hb:(g==k)=true:=beq_iff_eq.mpr h
    simp only[List.lookup,hb,if_pos (h.trans hk)]
   ·have hb:(g==k)=false:=beq_eq_false_iff_ne.mpr h
    simp only[List.lookup,hb,if_neg (fun e:g=f=>h (e.trans hk.symm))]
  ·rw[if_neg hk]
   by_cases h:g=k
   ·have hb:(g==k)=true:=beq_iff_eq.mpr h
    simp only[List.lookup,hb,if_neg (fun e:g=f=>hk (h.symm.trans e))]
   ·have hb:(g==k)=false:=beq_eq_false_iff_ne.mpr h
    simp only[List.lookup,hb]
    exact ih
theorem Zv(f:Str)(v:V):∀fs:List (Str×V),f∈(wx f v fs).map (·.1)∧∀g,g∈fs.map (·.1)→g∈(wx f v fs).map (·.1):=by
 intro l_
 induction l_ with
 |nil=>
  exact⟨by simp[wx],fun g h=>by simp at h⟩
 |cons p_ r ih_=>
  obtain⟨k,x⟩:=p_
  obtain⟨i1,i2⟩:=ih_
  rw[show wx f v ((k,x)::r)=(if k=f then (k,v)::r else (k,x)::wx f v r) from rfl]
  by_cases hk:k=f
  ·rw[if_pos hk]
   subst hk
   exact⟨by simp,fun g h=>by simpa using h⟩
  ·rw[if_neg hk]
   refine⟨?_,fun g h=>?_⟩
   ·rw[map_cons]
    exact mem_cons_of_mem _ i1
   ·rw[map_cons] at h ⊢
    rcases mem_cons.mp h with e|e
    ·exact mem_cons.mpr (.inl e)
    ·exact mem_cons_of_mem _ (i2 g e)
theorem ZI(f:Str)(v:V):∀fs:List (Str×V),(wx f v fs).length≤fs.length+1:=by
 intro l_
 induction l_ with
 |nil=>
  simp[wx]
 |cons p_ r ih_=>
  obtain⟨k,x⟩:=p_
  have ih:=ih_
  rw[show wx f v ((k,x)::r)=(if k=f then (k,v)::r else (k,x)::wx f v r) from rfl]
  by_cases hk:k=f
  ·rw[if_pos hk,length_cons,length_cons];lia
  ·rw[if_neg hk,length_cons,length_cons];lia
theorem RelO.some_of{v:V}{o:Option Value}(r:RelO (some v) o):∃u,o=some u∧RelV v u:=by
 cases o with
 |none=>exact(show False from r).elim
 |some u=>exact⟨u,rfl,r⟩
theorem RelO.none_of{o:Option Value}(r:RelO none o):o=none:=by
 cases o with
 |none=>rfl
 |some u=>exact(show False from r).elim
theorem Qw{v:V}{u:Value}(r:RelV v u):PySem.W.handedIn u=true:=by
 cases v with
 |non=>cases (show u=Value.none from r);rfl
 |bl b=>cases (show u=Value.bool b from r);rfl
 |int i=>obtain⟨t,e⟩:=(show ∃t,u=Value.int i t from r);cases e;rfl
 |str x=>obtain⟨t,e⟩:=(show ∃t,u=Value.str x t from r);cases e;rfl
 |byt b=>obtain⟨t,e⟩:=(show ∃t,u=Value.bytes b t from r);cases e;rfl
 |flt b=>obtain⟨t,e⟩:=(show ∃t,u=Value.float b t from r);cases e;rfl
 |ref a=>cases (show u=Value.ref a from r);rfl
 |ty n=>cases (show u=Value.type n from r);rfl
section
variable{P:Program}{w:World}{H H':Hp}{h h':Heap}{a C dx:Addr}{fs fs':List (Str×V)}
theorem WH(hok:HOk P w H h)(e:H a=some (.ins C dx fs)):∃mA,ObjM h a dx C mA∧(∀f,RelO (fs.lookup f) (mA f))∧PySem.Within mA (fs.map (·.1))∧fs.length≤1000∧H dx=some (.own a):=by
 obtain⟨d,z,ne,ob,mA,n,r,q⟩:=(show ObjOk P w H h a (.ins C dx fs) from hok a _ e)
 exact⟨mA,⟨ob,n,ne⟩,r,q,z,d⟩
end
structure Cls(K:Frag)(C:Addr):Prop where
 pg:plainGet K C Str.empty=true
 hd:hasDictIn K C=true
 po:plainOver K C=true
 sa:findIn K (.ref C) "__setattr__" = some (some (.builtin "object.__setattr__"))
theorem Cls.get{K:Frag}{C:Addr}(c:Cls K C)(f:Str):plainGet K C f=true:=c.pg
noncomputable def NoAttr(K:Frag)(C:Addr)(f:Str):Prop:=findIn K (.ref C) f=some none
theorem NoAttr.taker{K:Frag}{C:Addr}{f:Str}(n:NoAttr K C f):takerIn K C f=some none:=by
 unfold takerIn
 rw[show findIn K (.ref C) f=some none from n]
 rfl
structure Xv(K:Frag)(C:Addr)(m:Str)(f:Addr):Prop where
 at_:findIn K (.ref C) m=some (some (.ref f))
 fn:isFn K (.ref f)=true
 kp:keepIn K (.ref f)=true
section
variable{X:Cx}{pins:List (Addr×Obj)}{σ:St}{H:Hp}{s:Shared}{a C dx:Addr}{fs:List (Str×V)}{f:Str}{v:V}{A:Around}{E:Value→Shared→Prop}
theorem Uv{b:Bool}{Q:Value→Shared→Prop}(I:Inv X pins σ H s)(e:H a=some (.ins C dx fs))(c:Cls X.K C)(n:NoAttr X.K C f)(l:fs.lookup f=some v)
  (h:∀u s',Inv X pins σ H s'→RelV v u→Q u s'):wpAny (model X.prog X.w) A (getAttr (.ref a) f b) Q E s:=by
 obtain⟨mA,O,r,_,_,_⟩:=WH I.hok e
 obtain⟨u,hu,ru⟩:=RelO.some_of (v:=v) (o:=mA f) (by rw[← l];exact r f)
 exact Lq I.kIn O (c.get f) c.hd n hu (Qw ru) (h u _ (I.tok _) ru)
theorem YV{m:Str}{g:Addr}{pl:Sem Bool}{Q:Value×List Value→Shared→Prop}(I:Inv X pins σ H s)(e:H a=some (.ins C dx fs))(c:Cls X.K C)(k:Xv X.K C m g)(l:fs.lookup m=none)
  (h:Q (.ref g,[.ref a]) s):wpAny (model X.prog X.w) A (getMethod (.ref a) m pl) Q E s:=by
 obtain⟨mA,O,r,_,_,_⟩:=WH I.hok e
 have hn:mA m=none:=RelO.none_of (by rw[← l];exact r m)
 exact Ml I.kIn O (c.get m) k.at_ k.fn hn h
theorem V8{y:V}{u:Value}{Q:Unit→Shared→Prop}(I:Inv X pins σ H s)(e:H a=some (.ins C dx fs))(c:Cls X.K C)(n:NoAttr X.K C f)(hl:fs.length<1000)(ry:RelV y u)
  (h:∀s',Inv X pins σ (upd H a (.ins C dx (wx f y fs))) s'→Q () s'):wpAny (model X.prog X.w) A (setAttr (.ref a) f u) Q E s:=by
 obtain⟨mA,O,r,wi,_,ho⟩:=WH I.hok e
 have hz:(fs.map (·.1)).length≤sizeLine:=by rw[length_map,sizeLine_eq];lia
 refine M4 I.kIn O c.sa c.po n.taker c.hd wi hz fun h' O' sb=>h _ ?_
 have hd:∃o,h'.get? dx=some o:=let ⟨o,_,_,e',_⟩:=O'.ns;⟨o,e'⟩
 refine I.write (x:=a) (e:=dx) (by rw[e];exact True.intro) (.inr ho) (fun b q hb z=>(sb.2 b hb).trans z) hd ?_
 refine⟨by rw[zi O.ne];exact ho,?_,O.ne,O'.obj,_,O'.ns,fun g=>?_,fun g hg=>?_⟩
 ·have:=ZI f y fs;lia
 ·show RelO ((wx f y fs).lookup g) (if g=f then some u else mA g)
  rw[ZF]
  by_cases q:g=f
  ·rw[if_pos q,if_pos q];exact ry
  ·rw[if_neg q,if_neg q];exact r g
 ·by_cases q:g=f
  ·rw[q];exact(Zv f y fs).1
  ·refine(Zv f y fs).2 g (wi g fun z=>hg ?_)
   show(if g=f then some u else mA g)=none
   rw[if_neg q];exact z
theorem Inv.made(I:Inv X pins σ H s):Inv X pins σ (upd (upd H s.heap.objs.size (.own (s.heap.objs.size+1))) (s.heap.objs.size+1) (.ins C s.heap.objs.size []))
  { s with heap:=(s.heap.push emptyDict).push (instObj C s.heap.objs.size) }:=by
 have e1:(s.heap.push emptyDict).get? s.heap.objs.size=some emptyDict:=Heap.get?_push_size s.heap rfl
 have e2:((s.heap.push emptyDict).push (instObj C s.heap.objs.size)).get? (s.heap.objs.size+1)=some (instObj C s.heap.objs.size):=by
  have:=Heap.get?_push_size (s.heap.push emptyDict) (o:=instObj C s.heap.objs.size) rfl
  rwa [Heap.size_push] at this
 have e3:(s.heap.push emptyDict).Ns s.heap.objs.size (fun _=>none):=⟨emptyDict,#[],_,e1,rfl,(fun e he=>absurd he (by simp)),fun _=>rfl⟩
 have I1:=I.laid (a:=s.heap.objs.size) (o:=.own (s.heap.objs.size+1)) (h':=s.heap.push emptyDict) (t':=s.toks) (fun b u q=>get?_push_of_some _ q) (le_refl _) ⟨_,e1⟩
 refine I1.laid (a:=s.heap.objs.size+1) (o:=.ins C s.heap.objs.size []) (t':=s.toks) (fun b u q=>get?_push_of_some _ q) (Nat.le_of_eq (Heap.size_push _ _)) ?_
 have ne:s.heap.objs.size≠s.heap.objs.size+1:=ne_of_lt (Nat.lt_succ_self _)
 refine⟨by rw[zi ne,zn],zero_le _,ne,e2,fun _=>none,(Heap.Ns1.of_empty e3).at fun o q=>get?_push_of_some _ q,fun _=>True.intro,fun y hy=>absurd rfl hy⟩
theorem LG{prog:Program}{w:World}{env:Env}{e:Expr}{f:Str}{pos:Pos}{s:Shared}{Q:Value→Shared→Prop}(hb:attributeBase e f env (eval e env)=eval e env)
  (h:wpAny (model prog w) A (eval e env) (fun o s₁=>wpAny (model prog w) A (getAttr o f true) Q E s₁) E s):wpAny (model prog w) A (eval (.Attribute e f pos) env) Q E s:=
 Attribute_any_ h (by rw[arm_eval_Attribute,hb])
end
noncomputable def tFld(K:Frag)(ta:TE)(f:Str):TE:=fun σ H Q=>ta σ H fun x H1=>∃a C dx fs v,x=.ref a∧H1 a=some (.ins C dx fs)∧Cls K C∧NoAttr K C f∧fs.lookup f=some v∧Q v H1
noncomputable def sFld(K:Frag)(ta tv:TE)(f:Str):TS:=fun D σ H=>tv σ H fun y H1=>ta σ H1 fun x H2=>∃a C dx fs,x=.ref a∧H2 a=some (.ins C dx fs)∧Cls K C∧NoAttr K C f∧fs.length<1000 ∧
 D.nx σ (upd H2 a (.ins C dx (wx f y fs)))
section
variable{X:Cx}{o e value:Expr}{f:Str}{pos pos' tpos:Pos}{ta tv:TE}
theorem zc9(he:PE X e ta)(hb:attributeBase e f X.env (eval e X.env)=eval e X.env):PE X (.Attribute e f pos) (tFld X.K ta f):=by
 intro pins s σ H Q I h
 refine LG hb (thn (he pins s σ H _ I h) fun u s1 z_=>?_)
 obtain⟨x,H1,I1,rx,a,C,dx,fs,v,ex,ea,c,n,l,q⟩:=z_
 subst ex
 obtain rfl:u=Value.ref a:=rx
 exact Uv I1 ea c n l fun u' s2 I2 ru=>⟨v,H1,I2,ru,q⟩
theorem zb6(ha:PE X o ta)(hv:PE X value tv)(hs:swapsWith value (some (.Attribute o f pos')) pos.line X.env=pure false):PS X (.Assign [.Attribute o f pos'] value pos) (sFld X.K ta tv f):=by
 intro pins s σ H D I h
 refine plainObj_wpAny_Assign_Attribute (thn (hv pins s σ H _ I h) fun u s1 ⟨y,H1,I1,ry,q⟩=>thn (ha pins s1 σ H1 _ I1 q) fun ov s2 z_=>?_) hs
 obtain⟨x,H2,I2,rx,a,C,dx,fs,ex,ea,c,n,l,q2⟩:=z_
 subst ex
 obtain rfl:ov=Value.ref a:=rx
 exact V8 I2 ea c n l ry fun s3 I3=>⟨σ,_,I3,q2⟩
end
section
variable{X:Cx}{pins:List (Addr×Obj)}{σ:St}{H:Hp}{s:Shared}{A:Around}{E:Value→Shared→Prop}{Q:Value→Shared→Prop}{c:Value}{b:Bool}
end
structure Room(k:Nat)(A:Around):Prop where
 hd:A.handled=none
 dp:A.depth+3*k+5<recursionLimit
 un:A.units+16*k+200<cLine
theorem Room.mono{j k:Nat}{A:Around}(r:Room k A)(h:j≤k):Room j A:=⟨r.hd,by have:=r.dp;lia,by have:=r.un;lia⟩
theorem Room.deeper{k:Nat}{A:Around}(r:Room (k+1) A)(env:Env):Room k (A.deeper env):=
 ⟨r.hd,by have:=r.dp;show A.depth+1+3*k+5<_;lia,by have:=r.un;show A.units+3+16*k+200<_;lia⟩
theorem Room.in1{k:Nat}{A:Around}(r:Room (k+1) A):Room k A.in1:=
 ⟨r.hd,by have:=r.dp;show A.depth+3*k+5<_;lia,by have:=r.un;show A.units+1+16*k+200<_;lia⟩
theorem Uq{A:Around}{C:Addr}{us:List Value}{kw:List (Str×Value)}:(A.under (.builtin "type.__call__" ⟨.ref C::us,kw⟩)).depth=A.depth+1:=by
 first|rfl|simp[Around.under,Code.weight,Code.isCreation,Code.isGuard,Code.isCaller,Code.frames,Code.isFrame,guardIds]
theorem Up{A:Around}{C:Addr}{us:List Value}{kw:List (Str×Value)}:(A.under (.builtin "type.__call__" ⟨.ref C::us,kw⟩)).units=A.units+1:=by
 first|rfl|simp[Around.under,Code.cUnits,Code.frames,Code.isFrame]
theorem Room.make{k:Nat}{A:Around}(r:Room (k+1) A)(C:Addr)(us:List Value)(kw:List (Str×Value)):Room k (A.under (.builtin "type.__call__" ⟨.ref C::us,kw⟩)):=
 ⟨r.hd,by have:=r.dp;rw[Uq];lia,by have:=r.un;rw[Up];lia⟩
theorem Room.depth{k:Nat}{A:Around}(r:Room k A):A.depth<recursionLimit:=by have:=r.dp;lia
theorem Room.units{k:Nat}{A:Around}(r:Room k A):A.units+64<cLine:=by have:=r.un;lia
noncomputable def za4:TA:=fun _ H Q=>Q [] H
noncomputable def tCons(ta:TE)(tr:TA):TA:=fun σ H Q=>ta σ H fun x H1=>tr σ H1 fun xs H2=>Q (x::xs) H2
section
variable{X:Cx}{e:Expr}{es:List Expr}{te:TE}{t:TA}{pos:Pos}
theorem Zn:PA X [] za4:=fun _ _ _ _ H Q I h=>Calls.spliced_nil ⟨[],H,I,.nil,h⟩
theorem uX(ha:PE X e te)(hr:PA X es t)(hs:starEach (e::es) X.env=(false,eval e X.env)::starEach es X.env:=by rfl):PA X (e::es) (tCons te t):=by
 intro pos pins s σ H Q I h
 rw[hs]
 show wpAny _ _ (spliced ((false,eval e X.env)::backTo pos (starEach es X.env))) _ _ s
 refine Calls.spliced_cons (thn (ha pins s σ H _ I h) fun u s1 z_=>?_)
 obtain⟨x,H1,I1,r1,q1⟩:=z_
 exact thn (hr pos pins s1 σ H1 _ I1 q1) fun us s2 z_=>by obtain⟨xs,H2,I2,r2,q2⟩:=z_;exact⟨x::xs,H2,I2,.cons r1 r2,q2⟩
noncomputable def tTup(t:TA):TE:=fun σ H Q=>t σ H fun xs H1=>xs.length≤sizeLine∧∀p,H1 p=none→Q (.ref p) (upd H1 p (.tup xs))
noncomputable def tLst(t:TA):TE:=fun σ H Q=>t σ H fun xs H1=>xs.length≤sizeLine∧∀p,H1 p=none→Q (.ref p) (upd H1 p (.lst xs))
theorem zc4{x1}(h:PA X es t):PE X (.Tuple es x1 pos) (tTup t):=by
 intro pins s σ H Q I hq
 refine wpAny_Tuple_spliced (thn (h pos pins s σ H _ I hq) fun us s1 ⟨xs,H1,I1,r,z,q⟩=>⟨by rw[← r.length];exact z,?_⟩)
 have hf:H1 s1.heap.objs.size=none:=I1.hok.fresh (le_refl _)
 refine⟨.ref s1.heap.objs.size,upd H1 s1.heap.objs.size (.tup xs),I1.laid (t':=s1.toks) (fun b u e=>get?_push_of_some _ e) (le_refl _) ?_,rfl,q _ hf⟩
 exact⟨z,us,r,⟨_,Heap.get?_push_size _ rfl,rfl,_,rfl⟩⟩
theorem Gm(h:PA X es t):PE X (.List es pos) (tLst t):=by
 intro pins s σ H Q I hq
 refine wpAny_List_spliced (thn (h pos pins s σ H _ I hq) fun us s1 ⟨xs,H1,I1,r,z,q⟩=>⟨by rw[← r.length];exact z,?_⟩)
 have hf:H1 s1.heap.objs.size=none:=I1.hok.fresh (le_refl _)
 refine⟨.ref s1.heap.objs.size,upd H1 s1.heap.objs.size (.lst xs),I1.laid (t':=s1.toks) (fun b u e=>get?_push_of_some _ e) (le_refl _) ?_,rfl,q _ hf⟩
 exact⟨z,us,0,r,Heap.get?_push_size _ rfl⟩
end
noncomputable abbrev Sp:=List V→Hp→VK→XK→Prop
noncomputable abbrev CXT:=List Env→Hp→Shared→XK→Value→Shared→Prop
structure Env0(P:Program)(w:World)(K:Frag)(mg:Str→Option Value)(base:Heap)(A:Around)(outer:List Env)(s:Shared)(H:Hp):Prop where
 frames:A.frames=some outer
 mod:Mod K mg base
 bs:∀b o,base.get? b=some o→s.heap.get? b=some o∧H b=none
 bsz:base.objs.size≤s.heap.objs.size
 funs:s.heap.FunFrames base outer
 frf:∀b∈frs outer,H b=none
 hok:HOk P w H s.heap
 bare:AllBare s.gens
noncomputable def CE(outer:List Env)(P:Program)(w:World)(H:Hp)(s:Shared)(Q:VK)(u:Value)(s':Shared):Prop:=
 ∃v H',s'.os=s.os∧AllBare s'.gens∧Un (frs outer) [] H H' s.heap s'.heap∧HOk P w H' s'.heap∧RelV v u∧Q v H'
noncomputable def CR(CX:CXT)(outer:List Env)(P:Program)(w:World)(H:Hp)(s:Shared)(Q:VK)(E:XK)(r:Result)(s':Shared):Prop:=
 match r with
 | .ok (.ret u)=>CE outer P w H s Q u s'
 |.ok _=>False
 |.error e=>CX outer H s E e s'
structure FnOk(P:Program)(w:World)(K:Frag)(mg:Str→Option Value)(base:Heap)(CX:CXT)(k:Nat)(f:Addr)(fd:FuncData)(ps:List Str)(sp:Sp):Prop where
 len:∀vs H Q E,sp vs H Q E→vs.length=ps.length
 run:∀(A:Around) (outer:List Env) (s:Shared) (H:Hp) (args:Args) (us:List Value) (vs:List V) (Q:VK) (E:XK),Room k A→Env0 P w K mg base A outer s H→BindsTo s fd args (ps.zip us)→Vals vs us→sp vs H Q E →
  codeAny (model P w) A (.call (.ref f) args) (CR CX outer P w H s Q E) s
theorem FnOk.imp{P:Program}{w:World}{K:Frag}{mg:Str→Option Value}{base:Heap}{CX:CXT}{k:Nat}{f:Addr}{fd:FuncData}{ps:List Str}{sp sp':Sp}(F:FnOk P w K mg base CX k f fd ps sp)
  (h:∀vs H Q E,sp' vs H Q E→sp vs H Q E):FnOk P w K mg base CX k f fd ps sp':=
 ⟨fun vs H Q E q=>F.len vs H Q E (h _ _ _ _ q),fun A outer s H args us vs Q E hr he hb hv hs=>F.run A outer s H args us vs Q E hr he hb hv (h _ _ _ _ hs)⟩
theorem Env0.make{P:Program}{w:World}{K:Frag}{mg:Str→Option Value}{base:Heap}{A:Around}{outer:List Env}{s:Shared}{H:Hp}(e:Env0 P w K mg base A outer s H)(C:Addr)(us:List Value)(kw:List (Str×Value)) :
  Env0 P w K mg base (A.under (.builtin "type.__call__" ⟨.ref C::us,kw⟩)) outer s H:=⟨by first|exact e.frames | (simpa[Around.under,Code.envs,Code.isFrame,pushEnvs] using e.frames),e.mod,e.bs,e.bsz,e.funs,e.frf,e.hok,e.bare⟩
section
variable{X:Cx}{pins:List (Addr×Obj)}{σ:St}{H:Hp}{s s':Shared}
theorem Inv.env0(I:Inv X pins σ H s):Env0 X.prog X.w X.K X.mg X.base X.A X.stack s H:=
 ⟨I.ok.frames,I.ok.mod,I.bs,le_trans I.ok.bsz I.sz,I.stack,I.stkFree,I.hok,I.bare⟩
theorem Inv.after{Q:VK}{u:Value}(I:Inv X pins σ H s)(h:CE X.stack X.prog X.w H s Q u s'):EP X pins σ Q u s':=by
 obtain⟨v,H',os,bare,un,hok,r,q⟩:=h
 obtain⟨hh,g,d,t,os'⟩:=s'
 obtain rfl:os'=s.os:=os
 exact⟨v,H',I.call (h':=hh) (g':=g) (d':=d) (t':=t) (ch:=[]) un hok bare (fun b z=>absurd z (by simp)),r,q⟩
end
noncomputable def tCall(sp:Sp)(dvs:List V)(E:XK)(t:TA):TE:=fun σ H Q=>t σ H fun vs H1=>sp (vs++dvs) H1 Q E
noncomputable def UM(C:Addr)(m:Str)(sp:Sp)(dvs:List V)(E:XK)(ta:TE)(t:TA):TE:=fun σ H Q=>ta σ H fun x H1=>∃a dx fs,x=.ref a∧H1 a=some (.ins C dx fs)∧fs.lookup m=none ∧
 t σ H1 fun vs H2=>sp (x::(vs++dvs)) H2 Q E
noncomputable def LO(C:Addr)(sp:Sp)(dvs:List V)(E:XK)(t:TA):TE:=fun σ H Q=>t σ H fun vs H1=>∀x dx,H1 x=none→H1 dx=none→dx≠x →
 sp (.ref x::(vs++dvs)) (upd (upd H1 dx (.own x)) x (.ins C dx [])) (fun v H2=>v=.non∧Q (.ref x) H2) E
noncomputable def Binds(K:Frag)(fd:FuncData)(ps:List Str)(ds:List Value):Prop:=
 ∀(s:Shared) (us:List Value),K.In s.heap→(us++ds).length=ps.length→BindsTo s fd ⟨us,[]⟩ (ps.zip (us++ds))
theorem Binds.all{K:Frag}{fd:FuncData}{ps:List Str}(h:∀us:List Value,us.length=ps.length→bindArgs fd ⟨us,[]⟩=pure (ps.zip us)):Binds K fd ps []:=fun s us _ hl=>by
 rw[append_nil] at hl ⊢
 exact .of_eq (h us hl)
noncomputable def jI(CX:CXT)(X:Cx)(E:XK):Prop:=∀(pins:List (Addr×Obj)) (σ:St) (H:Hp) (s:Shared) (e:Value) (s':Shared),Inv X pins σ H s→CX X.stack H s E e s'→X.xe e s'
section
variable{X:Cx}{CX:CXT}{k:Nat}{f C:Addr}{fd:FuncData}{ps:List Str}{sp:Sp}{dvs:List V}{ds:List Value}{E:XK}{x m:Str}{p pos apos:Pos}{e o:Expr}{es:List Expr}{ta:TE}{t:TA}
theorem V9{pins:List (Addr×Obj)}{σ:St}{H:Hp}{s:Shared}{Q:VK}{us:List Value}{vs:List V}(F:FnOk X.prog X.w X.K X.mg X.base CX k f fd ps sp)(hr:Room k X.A)(hb:Binds X.K fd ps ds)(hd:Vals dvs ds)(hx:jI CX X E)
  (I:Inv X pins σ H s) (r:Vals vs us) (h:sp (vs++dvs) H Q E):wpAny (model X.prog X.w) X.A (call (.ref f) us) (EP X pins σ Q) X.xe s:=by
 have r2:Vals (vs++dvs) (us++ds):=r.append hd
 have hl:(us++ds).length=ps.length:=by rw[← r2.length];exact F.len _ _ _ _ h
 refine wpAny_call (codeAny_mono (F.run X.A X.stack s H ⟨us,[]⟩ (us++ds) (vs++dvs) Q E hr I.env0 (hb s us I.kIn hl) r2 h) fun r s' hq=>?_)
 cases r with
 |error e=>exact hx pins σ H s e s' I hq
 |ok fl=>
  cases fl with
  |ret u=>exact I.after hq
  |next=>exact False.elim hq
  |brk=>exact False.elim hq
  |cont=>exact False.elim hq
theorem TB(F:FnOk X.prog X.w X.K X.mg X.base CX k f fd ps sp)(hr:Room k X.A)(hg:Gl X x)(hm:X.mg x=some (.ref f))(hk:keepIn X.K (.ref f)=true)(hb:Binds X.K fd ps ds)(hd:Vals dvs ds)(hx:jI CX X E)
  (ha:PA X (e::es) t) (hdb:(x==("__debug__" : Str))=false:=by decide) (he:starEach (e::es) X.env=(false,eval e X.env)::starEach es X.env:=by rfl) (hpl:(backTo pos (starEach es X.env)).any (·.1)=false:=by rfl) :
  PE X (.Call (.Name x p) (e::es) [] pos) (tCall sp dvs E t):=by
 intro pins s σ H Q I h
 refine wpAny_Call_Name_kw (WD I hg hm ?_ hdb)
 refine callWith_K (h₀:=X.base) I.ok.mod.kin hk (thn (ha pos pins s σ H _ I h) fun us s1 ⟨vs,H1,I1,r,q⟩=>⟨I1.kIn,?_⟩) he hpl
 exact V9 F hr hb hd hx I1 r q
theorem U9{pl:Sem Bool}(he:PE X o ta)(c:Cls X.K C)(hm:Xv X.K C m f)(F:FnOk X.prog X.w X.K X.mg X.base CX k f fd ps sp)(hr:Room k X.A)(hb:Binds X.K fd ps ds)(hd:Vals dvs ds)(hx:jI CX X E)(ha:PA X (e::es) t)
  (hst:starEach (e::es) X.env=(false,eval e X.env)::starEach es X.env:=by rfl) (hpl:(backTo pos (starEach es X.env)).any (·.1)=false:=by rfl)
  (ht:eval (.Call (.Attribute o m apos) (e::es) [] pos) X.env=(do
   let ov ← eval o X.env
   standAt apos.atName
   let (f,first) ← holding [ov] (getMethod ov m pl)
   callWith pos f first (backTo pos (starEach (e::es) X.env)) (backToKw pos (keywordEach [] X.env))):=by rfl) :
  PE X (.Call (.Attribute o m apos) (e::es) [] pos) (UM C m sp dvs E ta t):=by
 intro pins s σ H Q I h
 refine PySem.W.methodCall_KW (pl:=pl) (thn (he pins s σ H _ I h) fun u s1 z_=>?_) ht
 obtain⟨x,H1,I1,rx,a,dx,fs,ex,ea,l,q⟩:=z_
 subst ex
 obtain rfl:u=Value.ref a:=rx
 refine YV I1 ea c hm l ?_
 refine callWith_K (first:=[.ref a]) (h₀:=X.base) I.ok.mod.kin hm.kp (thn (ha pos pins s1 σ H1 _ I1 q) fun us s2 ⟨vs,H2,I2,r,q2⟩=>⟨I2.kIn,?_⟩) hst hpl
 exact V9 (us:=.ref a::us) (vs:=.ref a::vs) F hr hb hd hx I2 (.cons rfl r) q2
theorem Gk{pl:Sem Bool}(he:PE X o ta)(c:Cls X.K C)(hm:Xv X.K C m f)(F:FnOk X.prog X.w X.K X.mg X.base CX k f fd ps sp)(hr:Room k X.A)(hb:Binds X.K fd ps ds)(hd:Vals dvs ds)(hx:jI CX X E)
  (ht:eval (.Call (.Attribute o m apos) [] [] pos) X.env=(do
   let ov ← eval o X.env
   standAt apos.atName
   let (f,first) ← holding [ov] (getMethod ov m pl)
   callWith pos f first (backTo pos (starEach [] X.env)) (backToKw pos (keywordEach [] X.env))):=by rfl) :
  PE X (.Call (.Attribute o m apos) [] [] pos) (UM C m sp dvs E ta za4):=by
 intro pins s σ H Q I h
 refine PySem.W.methodCall_KW (pl:=pl) (thn (he pins s σ H _ I h) fun u s1 z_=>?_) ht
 obtain⟨x,H1,I1,rx,a,dx,fs,ex,ea,l,q⟩:=z_
 subst ex
 obtain rfl:u=Value.ref a:=rx
 refine YV I1 ea c hm l ?_
 exact PySem.W.callWith_K0 (first:=[.ref a]) I1.kIn hm.kp (V9 (us:=[.ref a]) (vs:=[.ref a]) F hr hb hd hx I1 (.cons rfl .nil) q)
structure Mk(K:Frag)(C f:Addr):Prop where
 makes:makesIn K C=true
 init:findIn K (.ref C) "__init__" = some (some (.ref f))
 fn:isFn K (.ref f)=true
 kp:keepIn K (.ref C)=true
theorem Q7{pins:List (Addr×Obj)}{σ:St}{H:Hp}{s:Shared}{Q:VK}{us:List Value}{vs:List V}(M:Mk X.K C f)(F:FnOk X.prog X.w X.K X.mg X.base CX k f fd ps sp)(hr:Room (k+1) X.A)(hb:Binds X.K fd ps ds)(hd:Vals dvs ds)
  (hx:jI CX X E) (I:Inv X pins σ H s) (r:Vals vs us)
  (h:∀x dx,H x=none→H dx=none→dx≠x→sp (.ref x::(vs++dvs)) (upd (upd H dx (.own x)) x (.ins C dx [])) (fun v H2=>v=.non∧Q (.ref x) H2) E) :
  wpAny (model X.prog X.w) X.A (call (.ref C) us) (EP X pins σ Q) X.xe s:=by
 have hq:=h (s.heap.objs.size+1) s.heap.objs.size (I.hok.fresh (le_succ _)) (I.hok.fresh (le_refl _)) (ne_of_lt (Nat.lt_succ_self _))
 have I2:=Inv.made (C:=C) I
 have r2:Vals (V.ref (s.heap.objs.size+1)::(vs++dvs)) (Value.ref (s.heap.objs.size+1)::(us++ds)):=.cons rfl (r.append hd)
 have hl:(Value.ref (s.heap.objs.size+1)::us++ds).length=ps.length:=by
  have e:=r2.length
  rw[F.len _ _ _ _ hq] at e
  exact e.symm
 refine wpAny_call (GX (f:=f) I.kIn M.makes M.init (beq_iff_eq.mp M.fn) (codeAny_mono (F.run _ X.stack _ _ ⟨Value.ref (s.heap.objs.size+1)::us,[]⟩ (Value.ref (s.heap.objs.size+1)::(us++ds)) _ _ E (hr.make C us [])
  (I2.env0.make C us []) (hb _ (Value.ref (s.heap.objs.size+1)::us) I2.kIn hl) r2 hq) fun r s' hq'=>?_))
 cases r with
 |error e=>exact hx pins σ _ _ e s' I2 hq'
 |ok fl=>
  cases fl with
  |ret u=>
   obtain⟨v,H',I3,rv,ev,q3⟩:=I2.after hq'
   subst ev
   exact⟨rv,⟨V.ref (s.heap.objs.size+1),H',I3,rfl,q3⟩⟩
  |next=>exact False.elim hq'
  |brk=>exact False.elim hq'
  |cont=>exact False.elim hq'
theorem Tv(M:Mk X.K C f)(F:FnOk X.prog X.w X.K X.mg X.base CX k f fd ps sp)(hr:Room (k+1) X.A)(hg:Gl X x)(hm:X.mg x=some (.ref C))(hb:Binds X.K fd ps ds)(hd:Vals dvs ds)(hx:jI CX X E)
  (ha:PA X (e::es) t) (hdb:(x==("__debug__" : Str))=false:=by decide) (he:starEach (e::es) X.env=(false,eval e X.env)::starEach es X.env:=by rfl) (hpl:(backTo pos (starEach es X.env)).any (·.1)=false:=by rfl) :
  PE X (.Call (.Name x p) (e::es) [] pos) (LO C sp dvs E t):=by
 intro pins s σ H Q I h
 refine wpAny_Call_Name_kw (WD I hg hm ?_ hdb)
 refine callWith_K (h₀:=X.base) I.ok.mod.kin M.kp (thn (ha pos pins s σ H _ I h) fun us s1 ⟨vs,H1,I1,r,q⟩=>⟨I1.kIn,?_⟩) he hpl
 exact Q7 M F hr hb hd hx I1 r q
end
section
variable{X:Cx}{CX:CXT}{k:Nat}{f C:Addr}{fd:FuncData}{ps ks:List Str}{sp:Sp}{E:XK}{x m:Str}{p pos apos kpos:Pos}{e o:Expr}{es:List Expr}{kws:List Keyword}{te ta:TE}{t tk:TA}{nm:Option Str}
variable{g:List Value→List Value→List Value}{gV:List V→List V→List V}
end
structure zJ(N P:List Str)(sc:Scope):Prop where
 kind:sc.kind=.function
 co:sc.isCoroutine=false
 gen:sc.isGenerator=false
 nd:N.Nodup
 pre:N.take P.length=P
 par:∀x∈P,sc.names.lookup x=some .local∨sc.names.lookup x=some .cell
 nofree:∀y∈sc.names,y.2≠.free
theorem Wb{kindOf:Str→Option NameKind}{x:Str}:∀{binds:List (Str×Value)} {m:Str→Option Value},(∀v,(x,v)∉binds)→bindL kindOf binds m x=m x
 |[],_,_=>rfl
 | (n,v)::r,m,h=>by
  unfold bindL
  rw[Wb fun w hw=>h w (mem_cons_of_mem _ hw)]
  split
  ·have:x≠n:=by rintro rfl;exact h v mem_cons_self
   simp[this]
  ·rfl
theorem Wd{kindOf:Str→Option NameKind}{x:Str}:∀{binds:List (Str×Value)} {m:Str→Option Value},(∀v,(x,v)∉binds)→bindC kindOf binds m x=m x
 |[],_,_=>rfl
 | (n,v)::r,m,h=>by
  unfold bindC
  rw[Wd fun w hw=>h w (mem_cons_of_mem _ hw)]
  split
  ·rfl
  ·have:x≠n:=by rintro rfl;exact h v mem_cons_self
   simp[this]
theorem Wc{kindOf:Str→Option NameKind}{x:Str}{v:Value}:∀{P:List Str} {vs:List Value} {i:Nat} {m:Str→Option Value},P.Nodup→P[i]?=some x→vs[i]?=some v→kindOf x=some .local →
  bindL kindOf (P.zip vs) m x=some v
 |[],_,_,_,_,h,_,_=>by simp at h
 |_::_,[],_,_,_,_,h,_=>by simp at h
 |p::P,w::vs,0,m,nd,h1,h2,hk=>by
  simp at h1 h2;subst h1;subst h2
  show bindL kindOf ((p,w)::P.zip vs) m p=_
  unfold bindL
  rw[Wb fun v hv=>(nodup_cons.mp nd).1 (List.of_mem_zip hv).1,if_pos hk]
  simp
 |p::P,w::vs,i+1,m,nd,h1,h2,hk=>by
  show bindL kindOf ((p,w)::P.zip vs) m x=_
  unfold bindL
  exact Wc (i:=i) (nodup_cons.mp nd).2 (by simpa using h1) (by simpa using h2) hk
theorem We{kindOf:Str→Option NameKind}{x:Str}{v:Value}:∀{P:List Str} {vs:List Value} {i:Nat} {m:Str→Option Value},P.Nodup→P[i]?=some x→vs[i]?=some v→kindOf x≠some .local →
  bindC kindOf (P.zip vs) m x=some v
 |[],_,_,_,_,h,_,_=>by simp at h
 |_::_,[],_,_,_,_,h,_=>by simp at h
 |p::P,w::vs,0,m,nd,h1,h2,hk=>by
  simp at h1 h2;subst h1;subst h2
  show bindC kindOf ((p,w)::P.zip vs) m p=_
  unfold bindC
  rw[Wd fun v hv=>(nodup_cons.mp nd).1 (List.of_mem_zip hv).1,if_neg hk]
  simp
 |p::P,w::vs,i+1,m,nd,h1,h2,hk=>by
  show bindC kindOf ((p,w)::P.zip vs) m x=_
  unfold bindC
  exact We (i:=i) (nodup_cons.mp nd).2 (by simpa using h1) (by simpa using h2) hk
noncomputable def start(N:List Str)(vs:List V):St:=vs.map some++List.replicate (N.length-vs.length) none
noncomputable def j5(CX:CXT)(P:Program)(w:World)(K:Frag)(mg:Str→Option Value)(base:Heap)(N:List Str)(qual:Str)(scope:Scope)(f:Addr)(cd:Value)(A:Around)(outer:List Env)(s:Shared)(H:Hp)(E:XK):Cx where
 prog:=P
 w:=w
 K:=K
 mg:=mg
 base:=base
 A:=A.deeper (envOfC qual scope s.heap.objs.size f cd)
 N:=N
 s₀:=s
 H₀:=H
 env:=envOfC qual scope s.heap.objs.size f cd
 outer:=outer
 stack:=envOfC qual scope s.heap.objs.size f cd::outer
 ex:=[]
 calm:=true
 fn:=fun _=>true
 pn:=[]
 xe:=fun e s'=>wpAny (model P w) (A.deeper (envOfC qual scope s.heap.objs.size f cd)) (leaving (envOfC qual scope s.heap.objs.size f cd) e) (fun _ s''=>CX outer H s E e s'') (fun e' s''=>CX outer H s E e' s'') s'
theorem VU{sc:Scope}{n:Nat}{x:Str}(h:sc.names.lookup x=some .cell):∃c,(cellsFrom n sc.names []).lookup x=some c:=by
 have q:=PySem.W.cellsFrom_some sc.names n [] (.inl h)
 exact Option.isSome_iff_exists.mp q
theorem Qs{CX:CXT}{P:Program}{w:World}{K:Frag}{mg:Str→Option Value}{base:Heap}{N ps:List Str}{qual:Str}{scope:Scope}{f:Addr}{cd:Value}{A:Around}{outer:List Env}{s s1:Shared}{H:Hp}{E:XK}{us:List Value}{vs:List V}
  (S:zJ N ps scope) (hd:A.handled=none) (e0:Env0 P w K mg base A outer s H) (hl:vs.length=ps.length) (r:Vals vs us)
  (x:InCallC s s.heap.objs.size (bindL (envOfC qual scope s.heap.objs.size f cd).kindOf (ps.zip us) fun _=>none) (cellsFrom (s.heap.objs.size+1) scope.names []) (bindC (envOfC qual scope s.heap.objs.size f cd).kindOf (ps.zip us) fun _=>none) s1) :
  Inv (j5 CX P w K mg base N qual scope f cd A outer s H E) [] (start N vs) H s1:=by
 have hpl:ps.length≤N.length:=by have:=congrArg List.length S.pre;rw[List.length_take] at this;lia
 obtain⟨h1,tk,rfl,hk⟩:=x.done
 have noA:∀b:Addr,b∉(j5 CX P w K mg base N qual scope f cd A outer s H E).ex:=fun b z=>absurd (show b∈([]:List Addr) from z) (by simp)
 refine⟨⟨e0.mod,S.kind,rfl,rfl,le_refl _,fun y z c h1 h2=>?_,fun y hy=>?_,fun y c _ h=>?_,fun _=>hd,Around.frames_deeper e0.frames,.inr ⟨rfl,rfl⟩,fun b z=>absurd z (noA b),e0.bs,e0.bsz,fun b _ _=>noA b,fun b z=>absurd z (noA b),e0.funs,e0.frf⟩,
  rfl,e0.bare,Un.kept hk,⟨_,x.toInCall.ns,fun i y v h1 h2 h3=>?_⟩,fun y c h=>⟨_,x.cell y c h⟩,e0.hok.fresh (le_refl _),fun y c h=>?_,fun p hp=>absurd (show p∈([]:List (Addr×Obj)) from hp) (by simp),e0.hok.kept hk,?_⟩
 ·exact name_of_addr x.apart (PySem.mem_of_lookup h1) (PySem.mem_of_lookup h2)
 ·have hy:scope.names.lookup y=some .cell∨scope.names.lookup y=some .free:=hy
  rcases hy with hy|hy
  ·exact VU hy
  ·exact absurd rfl (S.nofree _ (PySem.mem_of_lookup hy))
 ·exact le_of_lt (x.above y c (PySem.mem_of_lookup h))
 ·have hi:i<vs.length:=by
   unfold start at h2
   by_cases hi:i<vs.length
   ·exact hi
   ·rw[getElem?_append_right (by simpa using hi)] at h2
    rw[getElem?_replicate] at h2
    split at h2 <;> cases h2
  have ha:vs[i]?=some v:=by
   unfold start at h2
   rw[getElem?_append_left (by simpa using hi),getElem?_map] at h2
   cases e:vs[i]? with
   |none=>rw[e] at h2;cases h2
   |some a=>rw[e] at h2;cases h2;rfl
  obtain⟨u,hu,rv⟩:=r.get ha
  have hp:ps[i]?=some y:=by
   rw[← S.pre,List.getElem?_take_of_lt (by lia)];exact h1
  have ndP:ps.Nodup:=by rw[← S.pre];exact S.nd.sublist (List.take_sublist _ _)
  refine⟨u,rv,?_⟩
  rcases S.par y (mem_of_getElem? hp) with k|k
  ·exact .inl ⟨k,Wc ndP hp hu k⟩
  ·obtain⟨c,e⟩:=VU (n:=s.heap.objs.size+1) k
   refine .inr ⟨.inl k,c,e,?_⟩
   have q:=x.cell y c e
   rw[We ndP hp hu (by show scope.names.lookup y≠_;rw[k];decide)] at q
   exact q
 ·exact e0.hok.fresh (le_of_lt (x.above y c (PySem.mem_of_lookup h)))
 ·unfold start
  show _=N.length
  rw[length_append,length_map,length_replicate]
  lia
theorem L4{CX:CXT}{P:Program}{w:World}{K:Frag}{mg:Str→Option Value}{base:Heap}{k:Nat}{f:Addr}{name qual:Str}{params:Arguments}{body:List Stmt}{scope:Scope}{dV kV doc pm cdv ct oc:Value}{an od:Option Addr}
  {osl:Array (Option Value)} {N ps:List Str} {sp:Sp} (lk:K.lookup f=some ⟨oc,od,.func (fnOf name qual params body scope dV kV doc pm an cdv ct),osl⟩) (hcd:codeIn K cdv qual=true) (S:zJ N ps scope)
  (len:∀vs H Q E,sp vs H Q E→vs.length=ps.length)
  (hbody:∀(A:Around) (outer:List Env) (s:Shared) (H:Hp) (vs:List V) (Q:VK) (E:XK),Room k (A.deeper (envOfC qual scope s.heap.objs.size f cdv))→sp vs H Q E →
   ∃t,PSs (j5 CX P w K mg base N qual scope f cdv A outer s H E) body t∧t { nx:=fun _ H'=>Q .non H',rt:=Q } (start N vs) H) :
  FnOk P w K mg base CX (k+1) f (fnOf name qual params body scope dV kV doc pm an cdv ct) ps sp:=by
 refine⟨len,fun A outer s H args us vs Q E hr e0 hb r hsp=>?_⟩
 have hl:=len _ _ _ _ hsp
 have KX:K.In s.heap:=e0.mod.kin.keeps fun b o e=>(e0.bs b o e).1
 have lim:s.heap.NoLimit:=e0.mod.nolimit.keeps fun b o e=>(e0.bs b o e).1
 have hkind:∀y∈ps.zip us,scope.names.lookup y.1=some .local∨(scope.names.lookup y.1=some .cell∧((cellsFrom (s.heap.objs.size+1) scope.names []).lookup y.1).isSome=true):=fun ⟨n,v⟩ hy=>by
  rcases S.par n (List.of_mem_zip hy).1 with q|q
  ·exact .inl q
  ·exact .inr ⟨q,PySem.W.cellsFrom_some _ _ _ (.inl q)⟩
 refine codeAny_call_function hr.depth (KX _ _ lk) rfl S.co S.gen rfl (PySem.W.codeRec_of KX hcd) (hb _ _ _ _ ?_)
 refine wpAny_newFunctionEnv_cells S.kind hkind fun env he s1 x=>?_
 subst he
 refine⟨lim.keeps x.toInCall.keep,codeAny_func ?_⟩
 obtain⟨t,ht,hq⟩:=hbody A outer s H vs Q E (hr.deeper _) hsp
 have I:Inv (j5 CX P w K mg base N qual scope f cdv A outer s H E) [] (start N vs) H s1:=Qs S hr.hd e0 hl r x
 refine wpAny_mono (ht [] s1 (start N vs) H _ I hq) (fun fl s' hs=>?_) fun e s' hs=>hs
 have fin:∀{σ':St} {H':Hp} {v:V} {u:Value},Inv (j5 CX P w K mg base N qual scope f cdv A outer s H E) [] σ' H' s'→RelV v u→Q v H'→CE outer P w H s Q u s':=
  fun {σ' H' v u} J rv q=>⟨v,H',J.os,J.bare,J.base,J.hok,rv,q⟩
 cases fl with
 |ret u=>
  obtain⟨v,σ',H',J,rv,q⟩:=hs
  exact fin J rv q
 |next=>
  obtain⟨σ',H',J,q⟩:=hs
  exact fin (v:=V.non) (u:=Value.none) J rfl q
 |brk=>
  obtain⟨_,_,_,q⟩:=hs
  exact False.elim q
 |cont=>
  obtain⟨_,_,_,q⟩:=hs
  exact False.elim q
section
variable{X:Cx}{x:Str}{p pos:Pos}{e:Expr}{es:List Expr}{t:TA}{id T:String}{r:List V→Hp→VK→Prop}
noncomputable def tCB(r:List V→Hp→VK→Prop)(t:TA):TE:=fun σ H Q=>t σ H fun vs H1=>r vs H1 Q
theorem pe_callB(hc:CallR X (.builtin id) r)(hg:Gl X x)(hm:X.mg x=none)(hv:bootBuiltins x=some (.builtin id))(ha:PA X (e::es) t)(hn:x ≠ "__name__" := by decide)(hdb:(x==("__debug__" : Str))=false:=by decide)
  (he:starEach (e::es) X.env=(false,eval e X.env)::starEach es X.env:=by rfl) (hpl:(backTo pos (starEach es X.env)).any (·.1)=false:=by rfl):PE X (.Call (.Name x p) (e::es) [] pos) (tCB r t):=by
 intro pins s σ H Q I h
 refine wpAny_Call_Name_kw (uI I hg hm hv ?_ hn hdb)
 exact PyProof.Rows.callWith_builtin1 (thn (ha pos pins s σ H _ I h) fun us s1 ⟨vs,H1,I1,r1,q1⟩=>hc pins s1 σ H1 vs us Q I1 r1 q1) he hpl
end
end L2
namespace HT
open PySem PyProof.Rows
section
open PySem.SeqAt
open PySem.AutoSeq1 (wpAny_loadPart')
open PySem.MeetsSeq PySem.MeetsSeq2 PySem.MeetsSeq3
end
section
variable{prog:Program}{w:World}{A:Around}{E:Value→Shared→Prop}{s:Shared}
noncomputable def sIx(n d:Nat):Option Int→Nat
 |none=>d
 |some v=>if v<0 then (v+(n:Int)).toNat else min v.toNat n
end
end HT
namespace L2
open PySem PySem.Spec PyProof.Rows
noncomputable abbrev TO:=St→Hp→(Option Int→Hp→Prop)→Prop
noncomputable def PO(X:Cx)(e:Option Expr)(t:TO):Prop:=
 ∀(pins:List (Addr×Obj)) (s:Shared) (σ:St) (H:Hp) (Q:Option Int→Hp→Prop),Inv X pins σ H s→t σ H Q →
  wpAny (model X.prog X.w) X.A (evalPart e X.env) (fun u s'=>∃o H',Inv X pins σ H' s'∧IsPart u o∧Q o H') X.xe s
noncomputable def MY:TO:=fun _ H Q=>Q none H
noncomputable def tPart(t:TE):TO:=fun σ H Q=>t σ H fun x H1=>∃i,x=.int i∧Q (some i) H1
section
variable{X:Cx}{e:Expr}{te:TE}{lo hi:Option Expr}{tl th:TO}{pos p2:Pos}
theorem Ts:PO X none MY:=by
 intro pins s σ H Q I h
 rw[evalPart_none]
 exact wpAny_pure ⟨none,H,I,.none,h⟩
theorem Tr(h:PE X e te):PO X (some e) (tPart te):=by
 intro pins s σ H Q I hw
 rw[evalPart_some]
 refine thn (h pins s σ H _ I hw) fun u s1 z_=>?_
 obtain⟨x,H1,I1,r1,q1⟩:=z_
 obtain⟨i,rfl,q⟩:=q1
 obtain⟨t,rfl⟩:=r1
 exact⟨some i,H1,I1,.int i t,q⟩
noncomputable def SlR(X:Cx)(r:V→Option Int→Option Int→Hp→VK→Prop):Prop:=
 ∀(pins:List (Addr×Obj)) (s:Shared) (σ:St) (H:Hp) (x:V) (v vl vu:Value) (lo hi:Option Int) (sl:Addr) (Q:VK),Inv X pins σ H s→RelV x v→s.heap.IsSliceOf sl vl vu .none→IsPart vl lo→IsPart vu hi→r x lo hi H Q →
  ∃T id,typeLookup (.type T) "__getitem__" = pure (some (.builtin id))∧s.TypeIs v T∧wpAny (model X.prog X.w) X.A (getItem v (.ref sl)) (EP X pins σ Q) X.xe s
theorem SlR.or{r r':V→Option Int→Option Int→Hp→VK→Prop}(h:SlR X r)(h':SlR X r'):SlR X (fun x lo hi H Q=>r x lo hi H Q∨r' x lo hi H Q):=by
 intro pins s σ H x v vl vu lo hi sl Q I rx hs pl pu q
 rcases q with q|q
 ·exact h pins s σ H x v vl vu lo hi sl Q I rx hs pl pu q
 ·exact h' pins s σ H x v vl vu lo hi sl Q I rx hs pl pu q
noncomputable def tSl(r:V→Option Int→Option Int→Hp→VK→Prop)(te:TE)(tl th:TO):TE:=fun σ H Q=>te σ H fun x H1=>tl σ H1 fun l H2=>th σ H2 fun u H3=>r x l u H3 Q
theorem Gj{r:V→Option Int→Option Int→Hp→VK→Prop}(hr:SlR X r)(he:PE X e te)(hl:PO X lo tl)(hu:PO X hi th):PE X (.Subscript e (.Slice lo hi none p2) pos) (tSl r te tl th):=by
 intro pins s σ H Q I h
 refine Subscript_ (thn (he pins s σ H _ I h) fun v s1 z_=>?_)
 obtain⟨x,H1,I1,r1,q1⟩:=z_
 refine wpAny_Slice (thn (hl pins s1 σ H1 _ I1 q1) fun vl s2 ⟨l,H2,I2,pl,q2⟩=>thn (hu pins s2 σ H2 _ I2 q2) fun vu s3 z_=>?_)
 obtain⟨u,H3,I3,pu,q3⟩:=z_
 rw[evalPart_none]
 refine wpAny_pure ?_
 have I4:Inv X pins σ H3 { s3 with heap:=s3.heap.push { cls:=.type "slice", data:=.fields #[vl,vu,.none] } }:=I3.kept (t':=s3.toks) fun b ob q=>get?_push_of_some _ q
 obtain⟨T,id,hT,ht,hg⟩:=hr pins { s3 with heap:=s3.heap.push { cls:=.type "slice", data:=.fields #[vl,vu,.none] } } σ H3 x v vl vu l u s3.heap.objs.size Q I4 r1 (Heap.IsSliceOf.new ..) pl pu q3
 show wpAny (model X.prog X.w) X.A (subscriptTail e (.Slice lo hi none p2) v (.ref s3.heap.objs.size)) (EP X pins σ Q) X.xe { s3 with heap:=s3.heap.push { cls:=.type "slice", data:=.fields #[vl,vu,.none] } }
 exact tail_any (ops:=[.ref s3.heap.objs.size,v]) ht hT hg (by with_unfolding_all rfl)
noncomputable def QD(xs:List V)(lo hi:Option Int):List V:=(xs.drop (HT.sIx xs.length 0 lo)).take (HT.sIx xs.length xs.length hi-HT.sIx xs.length 0 lo)
theorem VT(xs:List V)(lo hi:Option Int):(QD xs lo hi).length≤xs.length:=by
 unfold QD
 rw[List.length_take,length_drop]
 lia
end
noncomputable def ixN(n:Nat)(i:Int):Option Nat:=if 0≤i then (if i<n then some i.toNat else none) else if -(n:Int)≤i then some (i+n).toNat else none
noncomputable def atI{α:Type}(xs:List α)(i:Int):Option α:=(ixN xs.length i).bind fun j=>xs[j]?
theorem Jv{n:Nat}{i:Int}{j:Nat}(h:ixN n i=some j):seqIndex? i n=some j∧j<n∧-(n:Int)≤i∧i<n:=by
 unfold ixN at h
 by_cases h0:0≤i
 ·rw[if_pos h0] at h
  by_cases h1:i<n
  ·rw[if_pos h1] at h
   have e:i.toNat=j:=Option.some.inj h
   exact⟨by rw[seqIndex_of h0 h1,e],by lia,by lia,h1⟩
  ·rw[if_neg h1] at h;cases h
 ·rw[if_neg h0] at h
  by_cases h1 : -(n:Int)≤i
  ·rw[if_pos h1] at h
   have e:(i+n).toNat=j:=Option.some.inj h
   exact⟨by rw[seqIndex_neg (by lia) h1,e],by lia,h1,by lia⟩
  ·rw[if_neg h1] at h;cases h
theorem WQ{α:Type}{xs:List α}{i:Int}{v:α}(h:atI xs i=some v):∃j,seqIndex? i xs.length=some j∧xs[j]?=some v∧j<xs.length∧-(xs.length:Int)≤i∧i<xs.length:=by
 unfold atI at h
 cases e:ixN xs.length i with
 |none=>rw[e] at h;cases h
 |some j=>
  rw[e] at h
  obtain⟨h1,h2,h3,h4⟩:=Jv e
  exact⟨j,h1,h,h2,h3,h4⟩
theorem JP{α:Type}{xs:List α}{j:Nat}{v:α}(h:xs[j]?=some v):atI xs (j:Int)=some v:=by
 have hj:j<xs.length:=(List.getElem?_eq_some_iff.mp h).1
 have e:ixN xs.length (j:Int)=some j:=by
  unfold ixN
  rw[if_pos (by lia),if_pos (by lia)];simp
 unfold atI;rw[e];exact h
noncomputable def WR(b:Expr):Prop:=∀o i,subscripted b false o i=operate [o,i] (getItem o i)
noncomputable def IxR(X:Cx)(r:R2):Prop:=
 ∀(value slice:Expr) (pins:List (Addr×Obj)) (s:Shared) (σ:St) (H:Hp) (x y:V) (v u:Value) (Q:VK),Inv X pins σ H s→RelV x v→RelV y u→r x y H Q →
  subscripted slice false v u=operate [v,u] (getItem v u)→wpAny (model X.prog X.w) X.A (subscriptTail value slice v u) (EP X pins σ Q) X.xe s
noncomputable def MtR(X:Cx)(id:String)(r:V→List V→Hp→VK→Prop):Prop:=
 ∀(pins:List (Addr×Obj)) (s:Shared) (σ:St) (H:Hp) (x:V) (xs:List V) (v:Value) (us:List Value) (Q:VK),Inv X pins σ H s→RelV x v→Vals xs us→r x xs H Q →
  wpAny (model X.prog X.w) X.A (call (.builtin id) (v::us)) (EP X pins σ Q) X.xe s
section
variable{X:Cx}{a b:Expr}{ta tb:TE}{pos:Pos}
theorem IxR.or{r r':R2}(h:IxR X r)(h':IxR X r'):IxR X (fun x y H Q=>r x y H Q∨r' x y H Q):=by
 intro value slice pins s σ H x y v u Q I rx ry q hs
 rcases q with q|q
 ·exact h value slice pins s σ H x y v u Q I rx ry q hs
 ·exact h' value slice pins s σ H x y v u Q I rx ry q hs
theorem LU{r:R2}(hr:IxR X r)(ha:PE X a ta)(hb:PE X b tb)(hs:WR b):PE X (.Subscript a b pos) (tOp r ta tb):=by
 intro pins s σ H Q I h
 exact Subscript_ (zi1 ha hb I h fun v u s2 x y H2 I2 rx ry q=>hr a b pins s2 σ H2 x y v u Q I2 rx ry q (hs _ _))
noncomputable def rIxL(K:Frag):R2:=fun x y H Q=>∃p xs i v,x=.ref p∧y=.int i∧SqL K H p xs∧atI xs i=some v∧Q v H
noncomputable def rIxT(K:Frag):R2:=fun x y H Q=>∃p xs i v,x=.ref p∧y=.int i∧SqT K H p xs∧atI xs i=some v∧Q v H
noncomputable def rIxS:R2:=fun x y H Q=>∃z i c,x=.str z∧y=.int i∧z.length≤sizeLine∧atI z.cps.toList i=some c∧Q (.str ⟨#[c]⟩) H
theorem ix_list:IxR X (rIxL X.K):=by
 intro value slice pins s σ H x y v u Q I rx ry h hs
 obtain⟨p,xs,i,z,rfl,rfl,hq,he,q⟩:=h
 cases rx
 obtain⟨t,rfl⟩:=ry
 obtain⟨its,r,pl,hz⟩:=I.list hq
 obtain⟨j,h1,h2,h3,h4,h5⟩:=WQ he
 obtain⟨w,ew,rw'⟩:=r.get h2
 have hl:=r.length
 have hn:=jz
 have fin:EP X pins σ Q w s:=⟨z,H,I,rw',q⟩
 by_cases h0:0≤i
 ·have hj:i.toNat=j:=by
   rw[seqIndex_of h0 h5] at h1
   exact Option.some.inj h1
  exact item_listR pl.isList h0 (by lia) (by rw[hj];simpa using ew) fin hs
 ·have hj:(i+(its.toArray.size:Int)).toNat=j:=by
   rw[seqIndex_neg (by lia) h4] at h1
   rw[size_toArray,← hl]
   exact Option.some.inj h1
  exact subscriptTail_builtinR (x:=w) pl.isList.typeIs slot_list_getitem.lookup
   (wpAny_getItem_list_neg (Q:=fun r s'=>r=w∧EP X pins σ Q r s') pl.isList (by lia) (by rw[size_toArray] <;> lia) (by lia) (by rw[hj];simpa using ew) ⟨rfl,fin⟩) hs
theorem ix_tup:IxR X (rIxT X.K):=by
 intro value slice pins s σ H x y v u Q I rx ry h hs
 obtain⟨p,xs,i,z,rfl,rfl,hq,he,q⟩:=h
 cases rx
 obtain⟨t,rfl⟩:=ry
 obtain⟨its,r,pl,hz⟩:=I.tuple hq
 obtain⟨j,h1,h2,h3,h4,h5⟩:=WQ he
 obtain⟨w,ew,rw'⟩:=r.get h2
 have hl:=r.length
 have hn:=jz
 have fin:EP X pins σ Q w s:=⟨z,H,I,rw',q⟩
 exact subscriptTail_builtinR (x:=w) pl.typeIs slot_tuple_getitem.lookup
  (getItem_tuple (j:=j) (Q:=fun r s'=>r=w∧EP X pins σ Q r s') pl (by lia) (by lia) (by rw[size_toArray,← hl];exact h1) (by simpa using ew) ⟨rfl,fin⟩) hs
theorem zg2:IxR X rIxS:=by
 intro value slice pins s σ H x y v u Q I rx ry h hs
 obtain⟨z,i,c,rfl,rfl,hz,he,q⟩:=h
 obtain⟨t,rfl⟩:=rx
 obtain⟨t',rfl⟩:=ry
 obtain⟨j,h1,h2,h3,h4,h5⟩:=WQ he
 have hl:z.cps.toList.length=z.length:=by simp[Str.length]
 rw[hl] at h1 h4 h5
 have hn:=jz
 exact tail_any (typeIs_str s z t) slot_str_getitem.lookup (getItem_str (c:=c) (by
  have e1:decide (i < -(2 ^ 63:Int))=false:=decide_eq_false (by lia)
  have e2:decide (i ≥ 2 ^ 63)=false:=decide_eq_false (by lia)
  rw[e1,e2,Bool.or_false]) (by rw[h1];simpa using h2) ⟨.str ⟨#[c]⟩,H,I.tok _,⟨_,rfl⟩,q⟩) hs
noncomputable def rIx(K:Frag):R2:=fun x y H Q=>rIxL K x y H Q∨rIxT K x y H Q∨rIxS x y H Q
theorem zg3:IxR X (rIx X.K):=ix_list.or (ix_tup.or zg2)
theorem Uo(its:List Value)(n j:Nat)(u:Value):Obj.mapSeq (·.setIfInBounds j u) { cls:=.type "list", data:=.seq its.toArray n } = { cls:=.type "list", data:=.seq (its.set j u).toArray n }:=by
 simp[Obj.mapSeq]
theorem Inv.lst{pins:List (Addr×Obj)}{σ:St}{H:Hp}{s:Shared}{p:Addr}{xs:List V}(I:Inv X pins σ H s)(h:H p=some (.lst xs)) :
  ∃(its:List Value) (n:Nat),Vals xs its∧s.heap.get? p=some { cls:=.type "list", data:=.seq its.toArray n }∧xs.length≤sizeLine:=by
 obtain⟨z,its,n,r,e⟩:=I.hok p _ h
 exact⟨its,n,r,e,z⟩
theorem Inv.lstUpd{pins:List (Addr×Obj)}{σ:St}{H:Hp}{s:Shared}{p:Addr}{xs ys:List V}{its its':List Value}{n n':Nat}{f:Obj→Obj}(I:Inv X pins σ H s)(h:H p=some (.lst xs))
  (ho:s.heap.get? p=some { cls:=.type "list", data:=.seq its.toArray n }) (hf:f { cls:=.type "list", data:=.seq its.toArray n } = { cls:=.type "list", data:=.seq its'.toArray n' }) (r:Vals ys its') (hz:ys.length≤sizeLine) (t:Nat) :
  Inv X pins σ (upd H p (.lst ys)) { s with heap:=s.heap.update p f,toks:=t }:=by
 have e:(s.heap.update p f).get? p=some { cls:=.type "list", data:=.seq its'.toArray n' }:=by
  rw[Heap.get?_update_self f ho (by rw[hf] <;> rfl),hf]
 refine I.write (x:=p) (e:=p) (by rw[h];trivial) (.inl rfl) (fun b u hb q=>(Heap.get?_update_other _ _ (Ne.symm hb)).trans q) ⟨_,e⟩ ?_
 exact⟨hz,its',n',r,e⟩
noncomputable def rSetL:V→V→V→Hp→(Hp→Prop)→Prop:=fun o i v H Q=>∃p xs k j,o=.ref p∧i=.int k∧H p=some (.lst xs)∧ixN xs.length k=some j∧Q (upd H p (.lst (xs.set j v)))
theorem Q1:PSet X rSetL:=by
 intro pins s σ H o i v ov iv u Q I ro ri rv h
 obtain⟨p,xs,k,j,rfl,rfl,hp,hj,q⟩:=h
 cases ro
 obtain⟨t,rfl⟩:=ri
 obtain⟨its,n,r,ho,hz⟩:=I.lst hp
 obtain⟨h1,h2,h3,h4⟩:=Jv hj
 have hl:=r.length
 have hn:=jz
 have I':Inv X pins σ (upd H p (.lst (xs.set j v))) { s with heap:=s.heap.update p (Obj.mapSeq (·.setIfInBounds j u)) }:=
  I.lstUpd hp ho (Uo its n j u) (r.set rv j) (by rw[length_set];exact hz) s.toks
 by_cases h0:0≤k
 ·have hk:k.toNat=j:=by
   rw[seqIndex_of h0 h4] at h1
   exact Option.some.inj h1
  exact PySem.W.ki_setAt ho h0 (by lia) (by rw[size_toArray,← hl];exact h4) (by rw[hk];exact⟨_,I',q⟩)
 ·have hk:(k+(its.toArray.size:Int)).toNat=j:=by
   rw[seqIndex_neg (by lia) h3] at h1
   rw[size_toArray,← hl]
   exact Option.some.inj h1
  exact PySem.W.ki_setBack ho (by lia) (by rw[size_toArray,← hl];exact h3) (by lia) (by rw[hk];exact⟨_,I',q⟩)
theorem Wi(lo hi:Option Int)(n:Nat):(sliceBounds lo hi none n).1=((HT.sIx n 0 lo:Nat):Int)∧(sliceBounds lo hi none n).2.1=((HT.sIx n n hi:Nat):Int)∧(sliceBounds lo hi none n).2.2=1:=by
 refine⟨?_,?_,rfl⟩
 ·cases lo with
  |none=>simp[sliceBounds,HT.sIx]
  |some i=>
   simp only[sliceBounds,HT.sIx,Option.getD_none,show(1:Int) > 0 by decide,if_true]
   by_cases h:i<0
   ·simp only[h,if_true] <;> lia
   ·simp only[h,if_false] <;> lia
 ·cases hi with
  |none=>simp[sliceBounds,HT.sIx]
  |some i=>
   simp only[sliceBounds,HT.sIx,Option.getD_none,show(1:Int) > 0 by decide,if_true]
   by_cases h:i<0
   ·simp only[h,if_true] <;> lia
   ·simp only[h,if_false] <;> lia
theorem Xe(its:List Value)(lo hi:Option Int):slicePick its.toArray lo hi none=((its.drop (HT.sIx its.length 0 lo)).take (HT.sIx its.length its.length hi-HT.sIx its.length 0 lo)).toArray:=by
 obtain⟨h1,h2,h3⟩:=Wi lo hi its.toArray.size
 unfold slicePick
 rw[h1,h2,h3]
 simp only[sliceRange_one,pick_run,size_toArray] <;> rfl
noncomputable def rSlL(K:Frag):V→Option Int→Option Int→Hp→VK→Prop:=fun x lo hi H Q=>∃a xs,x=.ref a∧SqL K H a xs∧∀p,H p=none→Q (.ref p) (upd H p (.lst (QD xs lo hi)))
theorem M3:SlR X (rSlL X.K):=by
 intro pins s σ H x v vl vu lo hi sl Q I rx hs pl pu h
 obtain⟨a,xs,rfl,hx,q⟩:=h
 cases rx
 obtain⟨its,r,ht,hz⟩:=I.list hx
 have hlen:=r.length
 refine⟨"list", _,slot_list_getitem.lookup,ht.isList.typeIs,?_⟩
 refine wpAny_getItem_list_slice ht.isList hs pl pu .none (by simp) ?_ (by rw[size_toArray] <;> lia)
 rw[Xe,← hlen]
 refine⟨.ref s.heap.objs.size,_,I.laid (t':=s.toks) (o:=.lst (QD xs lo hi)) (fun b ob q=>get?_push_of_some _ q) (le_refl _) ?_,rfl,q _ (I.hok.fresh (le_refl _))⟩
 exact⟨le_trans (VT xs lo hi) hz,_,0,(r.drop (HT.sIx xs.length 0 lo)).take (HT.sIx xs.length xs.length hi-HT.sIx xs.length 0 lo),Heap.get?_push_size _ rfl⟩
theorem call_len_seq:CallR X (.builtin "len") (fun xs H Q=>∃p ys,xs=[.ref p]∧(SqL X.K H p ys∨SqT X.K H p ys)∧Q (.int ys.length) H):=by
 intro pins s σ H xs us Q I r h
 obtain⟨p,ys,rfl,hq,q⟩:=h
 obtain⟨u,rfl,rx⟩:=vals1 r
 cases rx
 have hn:=jz
 rcases hq with hq|hq
 ·obtain⟨its,r',pl,hz⟩:=I.list hq
  have hlen:=r'.length
  exact Calls.call_len_list pl.isList (by simp only[size_toArray] <;> lia) ⟨.int ys.length,H,I.tok _,⟨s.toks+1,by rw[size_toArray,hlen]⟩,q⟩
 ·obtain⟨its,r',pl,hz⟩:=I.tuple hq
  have hlen:=r'.length
  exact len_tuple pl (by simp only[size_toArray] <;> lia) ⟨.int ys.length,H,I.tok _,⟨s.toks+1,by rw[size_toArray,hlen]⟩,q⟩
theorem WO:CallR X (.builtin "len") (fun xs H Q=>∃z,xs=[.str z]∧z.length≤sizeLine∧Q (.int z.length) H):=by
 intro pins s σ H xs us Q I r h
 obtain⟨z,rfl,hz,q⟩:=h
 obtain⟨u,rfl,t,rfl⟩:=vals1 r
 have hn:=jz
 exact len_str (by lia) ⟨.int z.length,H,I.tok _,⟨_,rfl⟩,q⟩
theorem CallR.or{f:Value}{r r':List V→Hp→VK→Prop}(h:CallR X f r)(h':CallR X f r'):CallR X f (fun xs H Q=>r xs H Q∨r' xs H Q):=by
 intro pins s σ H xs us Q I rs q
 rcases q with q|q
 ·exact h pins s σ H xs us Q I rs q
 ·exact h' pins s σ H xs us Q I rs q
noncomputable def tyV(K:Frag)(T:String)(x:V)(H:Hp):Prop:=match x with
 |.str _=>T = "str"
 |.int _=>T = "int"
 |.ref p=>(T = "list" ∧ ∃xs,SqL K H p xs)∨(T = "tuple" ∧ ∃o,K.lookup p=some o∧o.cls=.type "tuple" ∧ o.dict=none) ∨
   (T = "dict" ∧ ((∃kvs,H p=some (.dK kvs))∨∃kvs,H p=some (.dT kvs)))∨(T = "set" ∧ ∃S n,H p=some (.set S n))
 |_=>False
theorem QN{pins:List (Addr×Obj)}{σ:St}{H:Hp}{s:Shared}{T:String}{x:V}{v:Value}(I:Inv X pins σ H s)(r:RelV x v)(ty:tyV X.K T x H) :
  s.TypeIs v T∧∀a,v=.ref a→∃ob,s.heap.get? a=some ob∧ob.dict=none:=by
 cases x with
 |str z=>
  obtain⟨t,rfl⟩:=r
  cases (show T = "str" from ty)
  exact⟨typeIs_str s z t,fun _ e=>nomatch e⟩
 |int i=>
  obtain⟨t,rfl⟩:=r
  cases (show T = "int" from ty)
  exact⟨typeIs_int s i t,fun _ e=>nomatch e⟩
 |ref p=>
  cases r
  rcases ty with ⟨rfl,xs,hq⟩|⟨rfl,o,hk,hc,hd⟩|⟨rfl,hk⟩|⟨rfl,S,n,hk⟩
  ·obtain⟨its,_,pl,_⟩:=I.list hq
   refine⟨pl.isList.typeIs,fun a e=>?_⟩
   cases e
   obtain⟨o,n,e,c,hd,_⟩:=pl
   exact⟨o,e,hd⟩
  ·refine⟨⟨o,I.kIn p o hk,hc⟩,fun a e=>?_⟩
   cases e
   exact⟨o,I.kIn _ o hk,hd⟩
  ·have z:∃o,s.heap.get? p=some o∧o.ExactDict:=by
    rcases hk with ⟨kvs,hk⟩|⟨kvs,hk⟩
    ·obtain⟨_,_,_,_,o,_,_,e,ex,_⟩:=I.hok p _ hk
     exact⟨o,e,ex⟩
    ·obtain⟨_,_,_,_,o,_,_,e,ex,_⟩:=I.hok p _ hk
     exact⟨o,e,ex⟩
   obtain⟨o,e,ex⟩:=z
   refine⟨⟨o,e,ex.1⟩,fun a e2=>?_⟩
   cases e2
   exact⟨o,e,ex.2.1⟩
  ·obtain⟨o,_,_,_,e,ex,_⟩:=I.hok p _ hk
   refine⟨⟨o,e,ex.1⟩,fun a e2=>?_⟩
   cases e2
   exact⟨o,e,ex.2.1⟩
 |_=>exact False.elim ty
noncomputable def tBM0(K:Frag)(T:String)(r:V→List V→Hp→VK→Prop)(to:TE):TE:=fun σ H Q=>to σ H fun x H1=>tyV K T x H1∧r x [] H1 Q
noncomputable def tBM(K:Frag)(T:String)(r:V→List V→Hp→VK→Prop)(to:TE)(t:TA):TE:=fun σ H Q=>to σ H fun x H1=>tyV K T x H1∧t σ H1 fun xs H2=>r x xs H2 Q
variable{o e:Expr}{es:List Expr}{to:TE}{t:TA}{name:Str}{apos cpos:Pos}{T id:String}{r:V→List V→Hp→VK→Prop}
theorem zd0(pa:PlainAttrs T)(slot:Slot T name id)(hty:typeOf (.builtin id)=pure (.type "method_descriptor"))(hm:MtR X id r)(ho:PE X o to)
  (hbase:attributeBase o name X.env (eval o X.env)=eval o X.env:=by rfl) (hline:(apos.endLine==cpos.line)=true:=by rfl):PE X (.Call (.Attribute o name apos) [] [] cpos) (tBM0 X.K T r to):=by
 intro pins s σ H Q I h
 refine wpAny_Call_method0_late hbase hline (thn (ho pins s σ H _ I h) fun v s1 z_=>?_)
 obtain⟨x,H1,I1,r1,ty,q1⟩:=z_
 obtain⟨h1,h2⟩:=QN I1 r1 ty
 exact⟨T,id,pa,slot,hty,h1,h2,Calls.callWith_builtin rfl (PySem.evalArgs_none (hm pins s1 σ H1 x [] v [] Q I1 r1 .nil q1))⟩
theorem LV(pa:PlainAttrs T)(slot:Slot T name id)(hty:typeOf (.builtin id)=pure (.type "method_descriptor"))(hm:MtR X id r)(ho:PE X o to)(ha:PA X (e::es) t)
  (hbase:attributeBase o name X.env (eval o X.env)=eval o X.env:=by rfl)
  (hfew:((backTo cpos (starEach (e::es) X.env)).all (fun x=>!x.1)&&(backToKw cpos (keywordEach [] X.env)).all (fun x=>x.1.isSome)
   && decide ((e::es).length+([]:List Keyword).length+(if ([]:List Keyword).isEmpty then 0 else 1)<30))=true:=by rfl)
  (hline:(apos.endLine==cpos.line)=true:=by rfl) (hs:starEach (e::es) X.env=(false,eval e X.env)::starEach es X.env:=by rfl) (hplain:(backTo cpos (starEach es X.env)).any (·.1)=false:=by rfl) :
  PE X (.Call (.Attribute o name apos) (e::es) [] cpos) (tBM X.K T r to t):=by
 intro pins s σ H Q I h
 refine wpAny_Call_method_late hbase hfew hline rfl (thn (ho pins s σ H _ I h) fun v s1 z_=>?_)
 obtain⟨x,H1,I1,r1,ty,q1⟩:=z_
 obtain⟨h1,h2⟩:=QN I1 r1 ty
 refine⟨T,id,pa,slot,hty,h1,h2,?_⟩
 have hA:=ha cpos pins s1 σ H1 _ I1 q1
 rw[hs] at hA ⊢
 refine Calls.callWith_builtin (by show(false||(backTo cpos (starEach es X.env)).any (·.1))=false;rw[hplain] <;> rfl) (Calls.evalArgs_plain ?_)
 exact thn hA fun us s2 z_=>by obtain⟨vs,H2,I2,r2,q2⟩:=z_;exact hm pins s2 σ H2 x vs v us Q I2 r1 r2 q2
end
noncomputable def MtM(X:Cx)(id:String)(r:V→List V→Hp→VK→Prop):Prop:=
 ∀(pins:List (Addr×Obj)) (s:Shared) (σ:St) (H:Hp) (x:V) (xs:List V) (v:Value) (us:List Value) (Q:VK),Inv X pins σ H s→RelV x v→Vals xs us→r x xs H Q →
  wpAny (model X.prog X.w) X.A (call (.builtin id) (v::us)) (EP X pins σ Q) X.xe s
theorem Vals.one{x:V}{us:List Value}(h:Vals [x] us):∃u,us=[u]∧RelV x u:=by
 cases h with
 |cons r h=>cases h;exact⟨_,rfl,r⟩
theorem Vals.reverse{xs:List V}{us:List Value}(h:Vals xs us):Vals xs.reverse us.reverse:=by
 induction h with
 |nil=>exact .nil
 |cons r t ih=>rw[List.reverse_cons,List.reverse_cons];exact Vals.append ih (.cons r .nil)
theorem Vals.rep{xs:List V}{us:List Value}(h:Vals xs us):∀k:Nat,Vals (List.replicate k xs).flatten (List.replicate k us).flatten:=by
 intro l_
 induction l_ with
 |zero=>
  exact .nil
 |succ k ih_=>
  rw[replicate_succ,replicate_succ,flatten_cons,flatten_cons]
  exact Vals.append h (ih_)
theorem foldl_rep(its:List Value):∀(k:Nat) (acc:List Value),
  List.foldl (fun x1 x2=>x1++x2) acc.toArray (List.replicate k its.toArray)=(acc++(List.replicate k its).flatten).toArray:=by
 intro l_
 induction l_ with
 |zero=>
  rintro acc
  simp
 |succ k ih_=>
  rintro acc
  have e:acc.toArray++its.toArray=(acc++its).toArray:=by simp
  have e2:(acc++its)++(List.replicate k its).flatten=acc++(List.replicate (k+1) its).flatten:=by
   rw[replicate_succ,flatten_cons,append_assoc]
  rw[← e2,← ih_ (acc++its),← e,replicate_succ,foldl_cons]
section
variable{X:Cx}{pins:List (Addr×Obj)}{σ:St}{H:Hp}{s:Shared}{l b:Addr}{xs ys zs:List V}
theorem Inv.lset{its its':List Value}{n:Nat}{f:Array Value→Array Value}{t':Nat}(I:Inv X pins σ H s)(hH:H l=some (.lst xs))
  (e:s.heap.get? l=some { cls:=.type "list", data:=.seq its.toArray n }) (hf:f its.toArray=its'.toArray) (hv:Vals ys its') (hz:ys.length≤sizeLine) :
  Inv X pins σ (upd H l (.lst ys)) { s with heap:=s.heap.update l (Obj.mapSeq f),toks:=t' }:=by
 have q:=PySem.IsL.update e f
 rw[hf] at q
 refine I.write (x:=l) (e:=l) (by rw[hH];exact trivial) (.inl rfl) (fun b' u hb hu=>(Heap.get?_update_other s.heap (Obj.mapSeq f) (Ne.symm hb)).trans hu) ⟨_,q⟩ ?_
 exact⟨hz,its',_,hv,q⟩
theorem Inv.lnew{its:List Value}{t':Nat}(I:Inv X pins σ H s)(hv:Vals ys its)(hz:ys.length≤sizeLine) :
  Inv X pins σ (upd H s.heap.objs.size (.lst ys)) { s with heap:=s.heap.push { cls:=.type "list", data:=.seq its.toArray },toks:=t' }:=
 I.laid (fun _ _ q=>get?_push_of_some _ q) (le_refl _) ⟨hz,its,0,hv,Heap.get?_push_size _ rfl⟩
theorem Inv.fresh(I:Inv X pins σ H s):H s.heap.objs.size=none:=I.hok.fresh (le_refl _)
theorem Inv.lstM(I:Inv X pins σ H s)(hH:H l=some (.lst xs)):xs.length≤sizeLine∧∃(its:List Value) (n:Nat),Vals xs its∧xs.length=its.length∧s.heap.get? l=some { cls:=.type "list", data:=.seq its.toArray n }:=by
 obtain⟨z,its,n,r,e⟩:=I.hok l _ hH
 exact⟨z,its,n,r,r.length,e⟩
theorem GM{n:Nat}(h:n≤sizeLine):Builtin.List.listTooLong n=false:=by
 unfold Builtin.List.listTooLong
 exact decide_eq_false (by lia)
end
section
variable{X:Cx}
noncomputable def Ti:V→List V→Hp→VK→Prop:=fun x vs H Q=>∃l xs y,x=.ref l∧vs=[y]∧H l=some (.lst xs)∧xs.length<sizeLine∧Q .non (upd H l (.lst (xs++[y])))
theorem Zr:MtM X "list.append" Ti:=by
 intro pins s σ H x vs v us Q I rx rv h
 obtain⟨l,xs,y,rfl,rfl,hH,hz,q⟩:=h
 cases rx
 obtain⟨u,rfl,ru⟩:=rv.one
 obtain⟨z,its,n,r,hl,e⟩:=I.lstM hH
 refine call_meets F.slot_list_append ⟨_,e,rfl⟩ F.entry_list_append (F.args_list_append_2 _ _) (PySem.list_append l its.toArray n u (by rw[size_toArray];lia)) ⟨e,?_⟩
 refine⟨.non,_,I.lset (its':=its++[u]) hH e (by simp) (r.append (.cons ru .nil)) ?_,rfl,q⟩
 rw[length_append,List.length_singleton]
 lia
noncomputable def rCat:R2:=fun x y H Q=>∃l b xs zs,x=.ref l∧y=.ref b∧H l=some (.lst xs)∧H b=some (.lst zs)∧xs.length+zs.length≤sizeLine∧∀p,H p=none→Q (.ref p) (upd H p (.lst (xs++zs)))
theorem zd8:OpR X (binaryOp .Add) rCat:=by
 intro pins s σ H x y v u Q I rx ry h
 obtain⟨l,b,xs,zs,rfl,rfl,hH,hB,hz,q⟩:=h
 cases rx
 cases ry
 obtain⟨z,its,n,r,hl,e⟩:=I.lstM hH
 obtain⟨z2,its2,n2,r2,hl2,e2⟩:=I.lstM hB
 refine PySem.P.add_list e e2 ?_ (by rw[size_toArray,size_toArray];lia)
 have ea:its.toArray++its2.toArray=(its++its2).toArray:=by simp
 rw[ea]
 exact⟨.ref _,_,I.lnew (t':=s.toks) (r.append r2) (by rw[length_append];lia),rfl,q _ I.fresh⟩
noncomputable def rRep:R2:=fun x y H Q=>∃l k xs,x=.ref l∧y=.int k∧H l=some (.lst xs)∧-(2 ^ 63)≤k∧k<2 ^ 63∧xs.length*k.toNat≤sizeLine ∧
 ∀p,H p=none→Q (.ref p) (upd H p (.lst (List.replicate k.toNat xs).flatten))
theorem Lc{α:Type}(xs:List α)(k:Nat):(List.replicate k xs).flatten.length=k*xs.length:=by
 induction k with
 |zero=>simp
 |succ k ih=>rw[replicate_succ,flatten_cons,length_append,ih,Nat.succ_mul,Nat.add_comm]
theorem zd5:OpR X (binaryOp .Mult) rRep:=by
 intro pins s σ H x y v u Q I rx ry h
 obtain⟨l,k,xs,rfl,rfl,hH,h1,h2,hz,q⟩:=h
 cases rx
 obtain⟨t,rfl⟩:=ry
 obtain⟨z,its,n,r,hl,e⟩:=I.lstM hH
 have hlen:its.toArray.size*k.toNat≤sizeLine:=by rw[size_toArray,← hl];exact hz
 have hcap:¬ its.toArray.size*k.toNat > (2 ^ 63-1) / 8:=by
  have:(sizeLine:Nat)≤(2 ^ 63-1) / 8:=by decide
  lia
 have hfit:¬ (!Builtin.List.listFitsIndex k)=true:=by
  rw[fitsIndex_both h1 h2]
  exact Bool.false_ne_true
 have hlong:¬ Builtin.List.listTooLong (its.toArray.size*k.toNat)=true:=by
  rw[GM hlen]
  exact Bool.false_ne_true
 have hnew:List.foldl (fun x1 x2=>x1++x2) #[] (List.replicate (if its.toArray.isEmpty=true then 0 else k.toNat) its.toArray)=(List.replicate k.toNat its).flatten.toArray:=by
  have f0:∀m:Nat,List.foldl (fun x1 x2=>x1++x2) #[] (List.replicate m its.toArray)=(List.replicate m its).flatten.toArray:=fun m=>by
   have:=foldl_rep its m []
   rw[nil_append] at this
   exact this
  rw[f0]
  cases its with
  |nil=>simp
  |cons a r'=>rw[if_neg (by simp)]
 refine wpAny_binaryOp_repeat_ref (T := "list") (U := "int") (by decide) ⟨_,e,rfl⟩ (fun s'=>typeIs_int s' k t) noFill_list_mul F.fills_int_mul F.slot_int_rmul repeat_list F.slot_int_index.lookup
  (call_meets F.slot_int_rmul (typeIs_int s k t) F.entry_int_rmul (F.args_int_rmul_2 _ _) (int___rmul___int_list k t l its.toArray n)
   ⟨e,rfl,⟨_,e,rfl⟩,call_meets F.slot_list_mul ⟨_,e,rfl⟩ F.entry_list_mul (F.args_list_mul_2 _ _) (AutoListH.list___mul___list_int_3 l its.toArray n k t hfit hcap hlong) ⟨e,?_⟩⟩)
 rw[hnew]
 exact⟨.ref _,_,I.lnew (t':=s.toks) (r.rep k.toNat) (by rw[Lc,Nat.mul_comm];exact hz),rfl,q _ I.fresh⟩
end
section
variable{prog:Program}{w:World}{A:Around}{E:Value→Shared→Prop}{s:Shared}
end
section
variable{X:Cx}
end
end L2
namespace Att
open PySem PySem.W PySem.Calls PyProof.Rows
theorem ZZ{P:Params}{h:Heap}:∀(ns:List Int) (vs:List Value),WellAll P h vs (ns.map WData.int)→IntsAre vs ns:=by
 intro ns
 induction ns with
 |nil=>
  intro vs w
  rw[map_nil] at w
  cases w
  exact .nil
 |cons n ns ih=>
  intro vs w
  rw[map_cons] at w
  cases w with
  |cons a b=>
   cases a
   exact .cons _ _ (ih _ b)
theorem J0{l:OpenLaw}{n:Nat}(hn:l.most=some n){P:Params}{h:Heap}{args:List WData}{vals:List Value}
  (hpre:l.row.toRowW.claim.pre args=true) (hwl:WellAll P h vals args) :
  ∃a vs ns,vals=[Value.ref a]∧args=[WData.list (ns.map WData.int)]∧h.get? a=some { cls:=.type "list", data:=.seq vs.toArray }∧IntsAre vs ns∧ns.length≤n:=by
 have hsh:WShape.hasAll [] args [.list .int]=true:=(pre_splitW hpre).1
 have hc:l.pre.holds [] { args:=args }=true:=(pre_splitW hpre).2
 obtain⟨d,r,rfl,h1,h2⟩:=hasAllW_cons hsh
 obtain rfl:=hasAllW_nil h2
 obtain⟨xs,rfl,h3⟩:=hasW_list h1
 obtain⟨ns,rfl⟩:=items_int h3
 have hlen:ns.length≤n:=by
  unfold OpenLaw.pre at hc
  have h4:(WTm.not (.lt (.lit (.int (n:Int))) (.len (.arg 0)))).holds [] { args:=[.list (ns.map .int)] }=true:=by
   have h4:=(holds_andW hc).1
   rw[hn] at h4
   exact h4
  have h5:=condW_of h4 (w_not (w_lt w_lit (w_len_list (w_arg rfl))))
  rw[length_map] at h5
  refine Nat.le_of_not_lt fun q=>?_
  have q':(n:Int)<((ns.length:Nat):Int):=by lia
  first
   | (rw[decide_eq_true q'] at h5;exact absurd h5 (by decide))
   | (simp at h5;lia)
 cases hwl with
 |cons w1 w2=>
  cases w2
  cases w1 with
  |list ho hall=>exact⟨_,_,ns,rfl,rfl,ho,ZZ ns _ hall,hlen⟩
theorem J5(l:OpenLaw)(args:List WData):l.row.toRowW.claim.post args (.bool true) args=true:=
 postW_of (r:=l.row.toRowW) (X:=(true==true))
  (show WShape.has [] (.bool true) .bool=true by first|rfl|decide|simp[WShape.has,WShape.arms,WShape.armsAll])
  (show(WTm.eq .res (.lit (.bool true))).value [] { args:=args,res:=some (.bool true),after:=args }=some (.bool (true==true)) from w_eq_bool (w_res rfl) w_lit) rfl
theorem attach_call{l:OpenLaw}{n:Nat}{q:Program}{loose:List Str}{XP:(Str→Option Value)→Heap→Prop}{YP:World→Heap→Prop}{d:DefRec}
  (hn:l.most=some n) (hdf:d.params.defaults=[])
  (call:∀(w:World) (s₀ s₁:Shared) (mg mb:Str→Option Value) (fa:Addr) (o:Obj) (pm cd doc:Value) (a:Addr) (vs:List Value) (ns:List Int),
   Ground q loose [] XP w s₀ mg mb s₁.heap→YP w s₁.heap →
   s₁.heap.get? fa=some o→o.data=.func (docDef d.name d.params d.body d.scope pm cd doc)→s₁.heap.CodeRec cd d.name→mg d.name=some (.ref fa) →
   s₁.heap.get? a=some { cls:=.type "list", data:=.seq vs.toArray }→IntsAre vs ns→ns.length≤n→s₁.gens = #[] →
   codeAny (model l.prog w) callerA (.call (.ref fa) ⟨[.ref a],[]⟩) (fun r s'=>r=.ok (.ret (.bool true))∧OldK s₁.heap s'.heap∧s'.os=s₁.os∧AllBare s'.gens) s₁) :
  WalkO q loose XP YP l.row.toRowW d [] (fun f vs=>PySem.call f vs):=by
 intro w s₀ s₁ mg mb G Y fa o pm cd doc dV kV ho hd hcd hD hmg hg args vals as hpre hlay hrd hwl hlo
 obtain rfl:dV=.none:=Dflts.none hD hdf
 obtain rfl:kV=.none:=Dflts.noKw hD
 obtain⟨a,vs,ns,rfl,rfl,hobj,hints,hlen⟩:=J0 hn hpre hwl
 refine enter_call (codeAny_mono (call w s₀ s₁ mg mb fa o pm cd doc a vs ns G Y ho (fd_plain hd) hcd hmg hobj hints hlen hg) fun r s' hq=>?_)
 obtain⟨rfl,h2,h3,h4⟩:=hq
 exact⟨.inl ⟨.bool true,.bool true,[],rfl,fun _=>rfl,.bool true,J5 l _,fun _=>⟨List.Pairwise.nil,fun _ hm=>(nomatch hm)⟩⟩,h2,h3,h4⟩
section
variable{prog:Program}{w:World}{A:Around}{E:Value→Shared→Prop}{s:Shared}{K:Frag}
end
end Att
namespace L2
open PySem PySem.Spec PyProof.Rows
theorem vals_ints:∀{vs:List Value} {ns:List Int},IntsAre vs ns→Vals (ns.map V.int) vs
 |_,_,.nil=>.nil
 |_,_,.cons n t h=>.cons ⟨t,rfl⟩ (vals_ints h)
noncomputable def Only(H:Hp):Prop:=∀b,H b=none∨∃o xs,H b=some (.frz o (.lst xs))
noncomputable def Z9(s:Stmt)(j:Nat):Stmt:=match s with
 |.ClassDef _ _ _ body _ _ _ _ _ _ _=>body.getD j (.Pass ⟨0,0,0,0⟩)
 |_=>.Pass ⟨0,0,0,0⟩
noncomputable def zI(s:Stmt):Arguments:=match s with
 |.FunctionDef _ a _ _ _ _ _ _ _ _=>a
 |_=>{ posonlyargs:=[],args:=[],vararg:=none,kwonlyargs:=[],kw_defaults:=[],kwarg:=none,defaults:=[] }
noncomputable def zB(s:Stmt):List Stmt:=match s with
 |.FunctionDef _ _ b _ _ _ _ _ _ _=>b
 |_=>[]
noncomputable def zh(s:Stmt):Scope:=match s with
 |.FunctionDef _ _ _ _ _ _ sc _ _ _=>sc
 |_=>{ kind:=.function,names:=[],isGenerator:=false,isCoroutine:=false }
noncomputable abbrev CX0:CXT:=fun _ _ _ _ _ _=>False
noncomputable abbrev E0:XK:=fun _ _ _=>False
theorem Vh{X:Cx}:jI CX0 X E0:=fun _ _ _ _ _ _ _ h=>h.elim
structure Fun(K:Frag)(x qual:Str)(st:Stmt)(f:Addr)(fd:FuncData):Prop where
 ex:∃(oc:Value) (od:Option Addr) (kV doc pm:Value) (an:Option Addr) (cdv ct:Value) (osl:Array (Option Value)),
  fd=fnOf x qual (zI st) (zB st) (zh st) .none kV doc pm an cdv ct∧K.lookup f=some ⟨oc,od,.func fd,osl⟩∧codeIn K cdv qual=true
 kp:keepIn K (.ref f)=true
section
variable{P:Program}{w:World}{K:Frag}{mg:Str→Option Value}{base:Heap}
theorem Fun.ok{x qual:Str}{st:Stmt}{f:Addr}{fd:FuncData}{N ps:List Str}{k:Nat}{sp:Sp}(F:Fun K x qual st f fd)(S:zJ N ps (zh st))(len:∀vs H Q E,sp vs H Q E→vs.length=ps.length)
  (hbody:∀(cdv:Value) (A:Around) (outer:List Env) (s:Shared) (H:Hp) (vs:List V) (Q:VK) (E:XK),Room k (A.deeper (envOfC qual (zh st) s.heap.objs.size f cdv))→sp vs H Q E →
   ∃t,PSs (j5 CX0 P w K mg base N qual (zh st) f cdv A outer s H E).nox (zB st) t∧t { nx:=fun _ H'=>Q .non H',rt:=Q } (start N vs) H):FnOk P w K mg base CX0 (k+1) f fd ps sp:=by
 obtain⟨oc,od,kV,doc,pm,an,cdv,ct,osl,rfl,lk,hcd⟩:=F.ex
 refine L4 lk hcd S len fun A outer s H vs Q E hr hsp=>?_
 obtain⟨t,h,q⟩:=hbody cdv A outer s H vs Q E hr hsp
 exact⟨t,h.nox,q⟩
theorem Fun.binds{x qual:Str}{st:Stmt}{f:Addr}{fd:FuncData}{ps:List Str}(F:Fun K x qual st f fd)
  (h:∀(kV doc pm:Value) (an:Option Addr) (cdv ct:Value) (us:List Value),us.length=ps.length→bindArgs (fnOf x qual (zI st) (zB st) (zh st) .none kV doc pm an cdv ct) ⟨us,[]⟩=pure (ps.zip us)):Binds K fd ps []:=by
 obtain⟨oc,od,kV,doc,pm,an,cdv,ct,osl,rfl,lk,hcd⟩:=F.ex
 exact .all (h kV doc pm an cdv ct)
theorem yq{x qual:Str}{st:Stmt}{f:Addr}{oc:Value}{od an:Option Addr}{osl:Array (Option Value)}{kV doc pm cdv ct:Value}(l:K.lookup f=some ⟨oc,od,.func (fnOf x qual (zI st) (zB st) (zh st) .none kV doc pm an cdv ct),osl⟩)
  (c:codeIn K cdv qual=true) (k:keepIn K (.ref f)=true):Fun K x qual st f (fnOf x qual (zI st) (zB st) (zh st) .none kV doc pm an cdv ct):=⟨⟨oc,od,kV,doc,pm,an,cdv,ct,osl,rfl,l,c⟩,k⟩
end
theorem X6{A:Around}{k:Nat}(hr:Room k A):A.units+1<cLine:=Nat.lt_of_le_of_lt (Nat.add_le_add_left (by decide:1≤64) _) hr.units
theorem xi{n:Nat}(h:n≤1000):n<sizeLine:=Nat.lt_of_le_of_lt h (by decide)
section
variable{X:Cx}
theorem pv(i:Nat){x:Str}{pos:Pos}(hN:X.N[i]?=some x:=by rfl)(hv:Vis X.env.scope x:=by first|exact Or.inl rfl|exact Or.inr (Or.inl rfl) | exact Or.inr (Or.inr rfl))(hd:(x==("__debug__" : Str))=false:=by decide)
  (hcd:(x==("__classdict__" : Str))=false:=by decide):PE X (.Name x pos) (wX i):=zc3 hN hv hd hcd
end
noncomputable def Same(H H':Hp):Prop:=∀b o,H b=some o→H' b=some o
theorem Same.refl(H:Hp):Same H H:=fun _ _ h=>h
theorem Same.trans{H H1 H2:Hp}(a:Same H H1)(b:Same H1 H2):Same H H2:=fun c o h=>b c o (a c o h)
theorem Same.seq{K:Frag}{H H':Hp}{a:Addr}{xs:List V}(e:Same H H')(h:SqL K H a xs):SqL K H' a xs:=by
 rcases h with (h|⟨o,h⟩) | h
 ·exact .inl (.inl (e _ _ h))
 ·exact .inl (.inr ⟨o,e _ _ h⟩)
 ·exact .inr h
end L2
namespace FD
open PySem PySem.Spec PyProof.Rows L2
noncomputable abbrev St:=L2.St
inductive D where
 | non|bl (b:Bool) | int (i:Int) | str (x:Str) | lst (xs:List D) | tup (xs:List D) | scr (ns:List Int) | raw (v:V) | exc (c:Str) | dct (ks:List Key) (ds:List D)
inductive Rs (α:Type) where
 | ok (a:α) | ex (c:Str) | no
noncomputable def Rs.bind{α β:Type}(r:Rs α)(k:α→Rs β):Rs β:=match r with
 |.ok a=>k a
 |.ex c=>.ex c
 |.no=>.no
@[simp] theorem Rs.bind_ok{α β:Type}(a:α)(k:α→Rs β):(Rs.ok a).bind k=k a:=rfl
noncomputable def excIs(K:Frag)(a:Addr)(c:Str):Heap→Prop:=fun h=>∃oe cls vs,h.get? a=some oe∧oe.cls=cls∧oe.dict=none∧oe.data=.fields vs∧nsIn K mainGlobals c=some (some cls)
section
variable(K:Frag)
mutual
noncomputable def Rep(F:Hp):D→V→Prop
 |.non,v=>v=.non
 |.bl b,v=>v=.bl b
 |.int i,v=>v=.int i
 |.str x,v=>v=.str x
 |.lst ds,v=>∃a vs,v=.ref a∧F a=some (.lst vs)∧Reps F ds vs
 |.scr ns,v=>∃a,v=.ref a∧SqL K F a (ns.map V.int)
 |.tup ds,v=>∃a vs,v=.ref a∧SqT K F a vs∧Reps F ds vs
 |.raw u,v=>v=u
 |.exc c,v=>∃a,v=.ref a∧F a=some (.ext (excIs K a c))
 |.dct ks ds,v=>∃a kvs o,v=.ref a∧F a=some (.frz o (.dK kvs))∧kvs.map (·.1)=ks∧Reps F ds (kvs.map (·.2))
noncomputable def Reps(F:Hp):List D→List V→Prop
 |[],vs=>vs=[]
 |d::ds,vs=>∃v r,vs=v::r∧Rep F d v∧Reps F ds r
end
end
theorem Same.refl(H:Hp):Same H H:=fun _ _ h=>h
theorem Same.seqT{K:Frag}{H H':Hp}{a:Addr}{xs:List V}(e:Same H H')(h:SqT K H a xs):SqT K H' a xs:=by
 rcases h with (h|⟨o,h⟩) | h
 ·exact .inl (.inl (e _ _ h))
 ·exact .inl (.inr ⟨o,e _ _ h⟩)
 ·exact .inr h
section
variable{K:Frag}{F F':Hp}
mutual
theorem Rep.mono(h:Same F F'):∀{d:D} {v:V},Rep K F d v→Rep K F' d v
 |.non,_,r=>by simpa only[Rep] using r
 |.bl _,_,r=>by simpa only[Rep] using r
 |.int _,_,r=>by simpa only[Rep] using r
 |.str _,_,r=>by simpa only[Rep] using r
 |.raw _,_,r=>by simpa only[Rep] using r
 |.exc c,v,r=>by
  simp only[Rep] at r ⊢
  obtain⟨a,e,q⟩:=r
  exact⟨a,e,h _ _ q⟩
 |.dct ks ds,v,r=>by
  simp only[Rep] at r ⊢
  obtain⟨a,kvs,o,e,q,k,t⟩:=r
  exact⟨a,kvs,o,e,h _ _ q,k,Reps.mono h t⟩
 |.lst ds,v,r=>by
  simp only[Rep] at r ⊢
  obtain⟨a,vs,e,q,t⟩:=r
  exact⟨a,vs,e,h _ _ q,Reps.mono h t⟩
 |.scr ns,v,r=>by
  simp only[Rep] at r ⊢
  obtain⟨a,e,q⟩:=r
  exact⟨a,e,h.seq q⟩
 |.tup ds,v,r=>by
  simp only[Rep] at r ⊢
  obtain⟨a,vs,e,q,t⟩:=r
  exact⟨a,vs,e,Same.seqT h q,Reps.mono h t⟩
theorem Reps.mono(h:Same F F'):∀{ds:List D} {vs:List V},Reps K F ds vs→Reps K F' ds vs
 |[],_,r=>by simpa only[Reps] using r
 |d::ds,vs,r=>by
  simp only[Reps] at r ⊢
  obtain⟨v,r',e,q,t⟩:=r
  exact⟨v,r',e,Rep.mono h q,Reps.mono h t⟩
end
theorem Reps.length:∀{ds:List D} {vs:List V},Reps K F ds vs→ds.length=vs.length
 |[],_,r=>by simp only[Reps] at r;subst r;rfl
 |d::ds,_,r=>by
  simp only[Reps] at r
  obtain⟨v,r',rfl,_,t⟩:=r
  simp[Reps.length t]
theorem Reps.get:∀{ds:List D} {vs:List V} {i:Nat} {d:D},Reps K F ds vs→ds[i]?=some d→∃v,vs[i]?=some v∧Rep K F d v
 |[],_,_,_,_,e=>by simp at e
 |d::ds,_,0,_,r,e=>by
  simp only[Reps] at r
  obtain⟨v,r',rfl,q,t⟩:=r
  simp at e;subst e
  exact⟨v,rfl,q⟩
 |d::ds,_,i+1,_,r,e=>by
  simp only[Reps] at r
  obtain⟨v,r',rfl,q,t⟩:=r
  obtain⟨w,h1,h2⟩:=Reps.get (i:=i) t (by simpa using e)
  exact⟨w,by simpa using h1,h2⟩
theorem Reps.nil:Reps K F [] []:=by simp only[Reps]
theorem Reps.cons{d:D}{v:V}{ds:List D}{vs:List V}(h:Rep K F d v)(t:Reps K F ds vs):Reps K F (d::ds) (v::vs):=by
 simp only[Reps];exact⟨v,vs,rfl,h,t⟩
theorem Reps.append:∀{ds es:List D} {vs ws:List V},Reps K F ds vs→Reps K F es ws→Reps K F (ds++es) (vs++ws)
 |[],_,_,_,r,t=>by simp only[Reps] at r;subst r;exact t
 |d::ds,es,_,ws,r,t=>by
  simp only[Reps] at r
  obtain⟨v,r',rfl,q,u⟩:=r
  exact Reps.cons q (Reps.append u t)
theorem Reps.take:∀{ds:List D} {vs:List V} (n:Nat),Reps K F ds vs→Reps K F (ds.take n) (vs.take n)
 |_,_,0,_=>by simp only[List.take_zero];exact Reps.nil
 |[],_,n+1,r=>by simp only[Reps] at r;subst r;simp only[List.take_nil];exact Reps.nil
 |d::ds,_,n+1,r=>by
  simp only[Reps] at r
  obtain⟨v,r',rfl,q,u⟩:=r
  exact Reps.cons q (Reps.take n u)
theorem Reps.drop:∀{ds:List D} {vs:List V} (n:Nat),Reps K F ds vs→Reps K F (ds.drop n) (vs.drop n)
 |_,_,0,r=>r
 |[],_,n+1,r=>by simp only[Reps] at r;subst r;simp only[List.drop_nil];exact Reps.nil
 |d::ds,_,n+1,r=>by
  simp only[Reps] at r
  obtain⟨v,r',rfl,q,u⟩:=r
  exact Reps.drop n u
theorem Reps.reverse:∀{ds:List D} {vs:List V},Reps K F ds vs→Reps K F ds.reverse vs.reverse
 |[],_,r=>by simp only[Reps] at r;subst r;exact Reps.nil
 |d::ds,_,r=>by
  simp only[Reps] at r
  obtain⟨v,r',rfl,q,u⟩:=r
  rw[List.reverse_cons,List.reverse_cons]
  exact Reps.append (Reps.reverse u) (Reps.cons q Reps.nil)
theorem Reps.set{d:D}{v:V}(h:Rep K F d v):∀{ds:List D} {vs:List V} (i:Nat),Reps K F ds vs→Reps K F (ds.set i d) (vs.set i v)
 |[],_,_,r=>by simp only[Reps] at r;subst r;exact Reps.nil
 |e::ds,_,0,r=>by
  simp only[Reps] at r
  obtain⟨w,r',rfl,q,u⟩:=r
  exact Reps.cons h u
 |e::ds,_,i+1,r=>by
  simp only[Reps] at r
  obtain⟨w,r',rfl,q,u⟩:=r
  exact Reps.cons q (Reps.set h i u)
theorem Reps.one{d:D}{vs:List V}(h:Reps K F [d] vs):∃v,vs=[v]∧Rep K F d v:=by
 simp only[Reps] at h
 obtain⟨v,r,e,q,e2⟩:=h
 subst e2;exact⟨v,e,q⟩
theorem Reps.two{d e:D}{vs:List V}(h:Reps K F [d,e] vs):∃v w,vs=[v,w]∧Rep K F d v∧Rep K F e w:=by
 simp only[Reps] at h
 obtain⟨v,r,e1,q,w,r2,e2,q2,e3⟩:=h
 subst e3;subst e2;exact⟨v,w,e1,q,q2⟩
theorem Reps.rep{ds:List D}{vs:List V}(h:Reps K F ds vs):∀k:Nat,Reps K F (List.replicate k ds).flatten (List.replicate k vs).flatten:=by
 intro l_
 induction l_ with
 |zero=>
  exact Reps.nil
 |succ k ih_=>
  rw[replicate_succ,replicate_succ,flatten_cons,flatten_cons]
  exact Reps.append h (ih_)
theorem Reps.ints:∀(ns:List Int),Reps K F (ns.map D.int) (ns.map V.int):=by
 intro l_
 induction l_ with
 |nil=>
  exact Reps.nil
 |cons n r ih_=>
  exact Reps.cons (by simp only[Rep]) (ih_)
end
class Tabs where
 rows:List (Addr×Nat×Nat×Str)
 own:Str→Str→Bool
noncomputable def Y7(c:Addr)(q:Str):Heap→Prop:=fun h=>h.CodeRec (.ref c) q
noncomputable def TOk(F H:Hp)(r:Addr×Nat×Nat×Str):Prop:=F r.1=none∧(H r.1=some (.tbl #[])∨∃c,H r.1=some (.tbl #[rawInt r.2.1,rawInt r.2.2.1,.ref c])∧H c=some (.ext (Y7 c r.2.2.2)))
variable[Tabs]
noncomputable def OwnOk(H:Hp):Prop:=∀d a,H d=some (.own a)→∃C dx vs,H a=some (.ins C dx vs)
noncomputable def TbT(F H:Hp):Prop:=(∀r∈Tabs.rows,TOk F H r)∧OwnOk H
omit [Tabs] in
theorem TOk.step{F H F' H':Hp}{r:Addr×Nat×Nat×Str}(t:TOk F H r)(nw:∀a o,F' a=some o→F a=some o∨H a=none)(k:∀a o,H a=some o→(∀vs,o≠.lst vs)→H' a=some o):TOk F' H' r:=by
 have hn:∀ps,H r.1=some (.tbl ps)→F' r.1=none:=fun ps e=>by
  cases q:F' r.1 with
  |none=>rfl
  |some o=>
   rcases nw _ _ q with z|z
   ·rw[t.1] at z;cases z
   ·rw[e] at z;cases z
 rcases t.2 with e|⟨c,e,e2⟩
 ·exact⟨hn _ e,.inl (k _ _ e fun _ z=>nomatch z)⟩
 ·exact⟨hn _ e,.inr ⟨c,k _ _ e (fun _ z=>nomatch z),k _ _ e2 fun _ z=>nomatch z⟩⟩
theorem TbT.step{F H F' H':Hp}(t:TbT F H)(nw:∀a o,F' a=some o→F a=some o∨H a=none)(k:∀a o,H a=some o→(∀vs,o≠.lst vs)→H' a=some o)(no:∀d a,H' d=some (.own a)→H d=some (.own a)):TbT F' H':=⟨fun r hr=>(t.1 r hr).step nw k,fun d a e=>by
 obtain⟨C,dx,vs,h⟩:=t.2 d a (no d a e)
 exact⟨C,dx,vs,k _ _ h fun _ z=>nomatch z⟩⟩
theorem TbT.freeze{F H:Hp}{a:Addr}{vs:List V}{o:HO}(t:TbT F H)(e:H a=some (.lst vs)):TbT (upd F a o) H:=⟨fun r hr=>by
 obtain⟨t1,t2⟩:=t.1 r hr
 have:r.1≠a:=fun z=>by
  rw[z,e] at t2
  rcases t2 with q|⟨c,q,_⟩ <;> cases q
 exact⟨by rw[zi this];exact t1,t2⟩,t.2⟩
noncomputable def Kp:HO→Option HO→Prop
 |.tbl _,r=>∃ps,r=some (.tbl ps)
 |o,r=>r=some o
noncomputable def Hh(H H':Hp):Prop:=∀b o,H b=some o→Kp o (H' b)
omit [Tabs] in
theorem Kp.of{o:HO}{r:Option HO}(h:r=some o):Kp o r:=by cases o <;> first|exact h|exact⟨_,h⟩
omit [Tabs] in
theorem Kp.some{o:HO}{r:Option HO}(h:Kp o r):r≠none:=by
 cases o <;> first | (obtain⟨_,h⟩:=h;rw[h];simp) | (have h:r=_:=h;rw[h];simp)
omit [Tabs] in
theorem Hh.of{H H':Hp}(h:Same H H'):Hh H H':=fun b o e=>.of (h b o e)
omit [Tabs] in
theorem Hh.refl(H:Hp):Hh H H:=.of (Same.refl H)
omit [Tabs] in
theorem Hh.trans{H H1 H2:Hp}(a:Hh H H1)(b:Hh H1 H2):Hh H H2:=fun c o e=>by
 have k:=a c o e
 cases o <;> first|exact b c _ k | (obtain⟨ps,q⟩:=k;show ∃ps,H2 c=some (.tbl ps);exact b c _ q)
omit [Tabs] in
theorem xg{F H:Hp}(h:Hh F H){a:Addr}(e:H a=none):F a=none:=by
 cases q:F a with
 |none=>rfl
 |some o=>exact absurd e (h a o q).some
structure Ext(F H F' H':Hp):Prop where
 ff:Same F F'
 hh:Hh H H'
 fh:Same F' H'
 nw:∀a o,F' a=some o→F a=some o∨H a=none
 tt:TbT F H→TbT F' H'
theorem Ext.refl{F H:Hp}(h:Same F H):Ext F H F H:=⟨Same.refl F,Hh.refl H,h,fun _ _ e=>.inl e,id⟩
theorem Ext.trans{F H F1 H1 F2 H2:Hp}(a:Ext F H F1 H1)(b:Ext F1 H1 F2 H2):Ext F H F2 H2:=
 ⟨a.ff.trans b.ff,a.hh.trans b.hh,b.fh,fun c o e=>by
  rcases b.nw c o e with q|q
  ·exact a.nw c o q
  ·exact .inr (xg a.hh q),fun t=>b.tt (a.tt t)⟩
omit [Tabs] in
theorem zH{F H:Hp}(h:Same F H){a:Addr}(e:H a=none):F a=none:=by
 cases q:F a with
 |none=>rfl
 |some o=>rw[h a o q] at e;cases e
omit [Tabs] in
theorem z7{H:Hp}{p:Addr}{o:HO}(h:H p=none):Same H (upd H p o):=fun b u q=>by rw[zi (zF q h)];exact q
omit [Tabs] in
theorem J1{F H:Hp}{p:Addr}{o:HO}(h:Same F H)(hp:H p=none):Same (upd F p o) (upd H p o):=fun b u q=>by
 by_cases hb:b=p
 ·subst hb;rw[zn] at q ⊢;exact q
 ·rw[zi hb] at q ⊢;exact h b u q
theorem Ext.same{F H F' H':Hp}(ff:Same F F')(hh:Same H H')(fh:Same F' H')(nw:∀a o,F' a=some o→F a=some o∨H a=none)(no:∀d a,H' d=some (.own a)→H d=some (.own a)):Ext F H F' H':=⟨ff,.of hh,fh,nw,fun t=>t.step nw (fun a o e _=>hh a o e) no⟩
omit [Tabs] in
theorem vG{H:Hp}{p:Addr}{o:HO}(ho:∀a,o≠.own a):∀d a,upd H p o d=some (.own a)→H d=some (.own a):=fun d a e=>by
 by_cases h:d=p
 ·subst h;rw[zn] at e;cases e;exact absurd rfl (ho a)
 ·rw[zi h] at e;exact e
theorem Ext.new{F H:Hp}{p:Addr}{o:HO}(h:Same F H)(hp:H p=none)(ho:∀a,o≠.own a:=by intro _ h;cases h):Ext F H (upd F p o) (upd H p o):=
 .same (z7 (zH h hp)) (z7 hp) (J1 h hp) (fun a u e=>by
  by_cases hb:a=p
  ·subst hb;exact .inr hp
  ·rw[zi hb] at e;exact .inl e) (vG ho)
theorem Ext.open{F H:Hp}{p:Addr}{o:HO}(h:Same F H)(hp:H p=none)(ho:∀a,o≠.own a:=by intro _ h;cases h):Ext F H F (upd H p o):=
 .same (Same.refl F) (z7 hp) (h.trans (z7 hp)) (fun a u e=>.inl e) (vG ho)
inductive Sl where
 | val (d:D)
 | own (ds:List D)
 | obj (n:Nat) (c:Str) (fs:List (Str×D))
 | obr (c:Str) (fs:List (Str×D))
noncomputable abbrev DS:=List (Option Sl)
noncomputable def OwnF(K:Frag)(F H:Hp)(d:D)(v:V):Prop:=∃ds l ws,d=.lst ds∧v=.ref l∧H l=some (.lst ws)∧F l=none∧Reps K F ds ws
noncomputable def Z2(K:Frag)(F H:Hp)(c f:Str)(d:D)(v:V):Prop:=if Tabs.own c f=true then OwnF K F H d v else Rep K F d v
noncomputable def Flds(K:Frag)(F H:Hp)(c:Str):List (Str×D)→List (Str×V)→Prop
 |[],[]=>True
 | (f,d)::r,(g,v)::s=>f=g∧Z2 K F H c f d v∧Flds K F H c r s
 |_,_=>False
noncomputable def y0(c:Str):List (Str×V)→List Addr
 |[]=>[]
 | (f,v)::r=>if Tabs.own c f=true then (match v with
  |.ref l=>l::y0 c r
  |_=>y0 c r) else y0 c r
noncomputable def Lof(H:Hp)(c:Str)(a:Addr):List Addr:=match H a with
 | some (.ins _ _ vs)=>y0 c vs
 |_=>[]
theorem Lof.ins{H:Hp}{c:Str}{a C dx:Addr}{vs:List (Str×V)}(h:H a=some (.ins C dx vs)):Lof H c a=y0 c vs:=by unfold Lof;rw[h]
theorem Flds.own{K:Frag}{F H:Hp}{c:Str}{l:Addr}:∀{fs:List (Str×D)} {vs:List (Str×V)},Flds K F H c fs vs→l∈y0 c vs→F l=none∧∃ws,H l=some (.lst ws)
 |[],[],_,h=>by cases h
 | (f,d)::r,(g,v)::s,q,h=>by
  obtain⟨rfl,q2,q3⟩:=q
  unfold y0 at h
  unfold Z2 at q2
  by_cases z:Tabs.own c f=true
  ·rw[if_pos z] at h q2
   obtain⟨ds,l',ws,e1,rfl,e3,e4,e5⟩:=q2
   rcases mem_cons.mp h with rfl|h
   ·exact⟨e4,ws,e3⟩
   ·exact Flds.own q3 h
  ·rw[if_neg z] at h
   exact Flds.own q3 h
 |[],_::_,q,_=>q.elim
 |_::_,[],q,_=>q.elim
theorem Flds.keep{K:Frag}{F H F' H':Hp}{c:Str}(hf:Same F F'):∀{fs:List (Str×D)} {vs:List (Str×V)},Flds K F H c fs vs→(∀l ws,l∈y0 c vs→H l=some (.lst ws)→F l=none→H' l=some (.lst ws)∧F' l=none)→Flds K F' H' c fs vs
 |[],[],_,_=>trivial
 | (f,d)::r,(g,v)::s,q,k=>by
  obtain⟨rfl,q2,q3⟩:=q
  refine⟨rfl,?_,Flds.keep hf q3 fun l ws hl=>k l ws ?_⟩
  ·unfold Z2 at q2 ⊢
   by_cases z:Tabs.own c f=true
   ·rw[if_pos z] at q2 ⊢
    obtain⟨ds,l,ws,e1,rfl,e3,e4,e5⟩:=q2
    obtain⟨k1,k2⟩:=k l ws (by unfold y0;rw[if_pos z];exact mem_cons_self) e3 e4
    exact⟨ds,l,ws,e1,rfl,k1,k2,e5.mono hf⟩
   ·rw[if_neg z] at q2 ⊢;exact q2.mono hf
  ·unfold y0
   by_cases z:Tabs.own c f=true
   ·rw[if_pos z]
    cases v with
    |ref l'=>exact mem_cons_of_mem _ hl
    |_=>exact hl
   ·rw[if_neg z];exact hl
 |[],_::_,q,_=>q.elim
 |_::_,[],q,_=>q.elim
noncomputable def Xu(K:Frag)(F H:Hp)(c:Str)(fs:List (Str×D))(a:Addr):Prop:=∃C dx vs,H a=some (.ins C dx vs)∧F a=none∧nsIn K mainGlobals c=some (some (.ref C))∧Flds K F H c fs vs∧H dx=some (.own a)∧(y0 c vs).Nodup
noncomputable def ObS(s:Option (Option Sl))(c:Str):Prop:=(∃n fs,s=some (some (.obj n c fs)))∨∃fs,s=some (some (.obr c fs))
structure ObsOk(K:Frag)(F:Hp)(τ:DS)(σ:St)(H:Hp):Prop where
 at_:∀(i n:Nat) (c:Str) (fs:List (Str×D)),τ[i]?=some (some (.obj n c fs))→∃a,σ[i]?=some (some (.ref a))∧Xu K F H c fs a
 dis:∀(i j n:Nat) (c c':Str) (fs:List (Str×D)) (a:Addr),i≠j→τ[i]?=some (some (.obj n c fs))→ObS τ[j]? c'→σ[i]?=some (some (.ref a))→σ[j]?=some (some (.ref a))→False
 rd:∀(i:Nat) (c:Str) (fs:List (Str×D)),τ[i]?=some (some (.obr c fs))→∃a C dx vs,σ[i]?=some (some (.ref a))∧H a=some (.ins C dx vs)∧nsIn K mainGlobals c=some (some (.ref C))∧Flds K F H c fs vs
 ll:∀(i j n:Nat) (c c':Str) (fs:List (Str×D)) (a a' l:Addr),i≠j→τ[i]?=some (some (.obj n c fs))→ObS τ[j]? c'→σ[i]?=some (some (.ref a))→σ[j]?=some (some (.ref a'))→l∈Lof H c a→l∈Lof H c' a'→False
 lo:∀(i j:Nat) (c:Str) (ds:List D) (a l:Addr),ObS τ[i]? c→τ[j]?=some (some (.own ds))→σ[i]?=some (some (.ref a))→σ[j]?=some (some (.ref l))→l∈Lof H c a→False
noncomputable def VA:Option Sl→Bool
 | some (.obj _ _ _)=>true
 | some (.obr _ _)=>true
 |_=>false
noncomputable def noObj(τ:DS):Prop:=∀(i:Nat) s,τ[i]?=some s→VA s=false
omit [Tabs] in
theorem noObj.obs{τ:DS}(n:noObj τ){i:Nat}{c:Str}(h:ObS τ[i]? c):False:=by
 rcases h with ⟨m,fs,h⟩|⟨fs,h⟩
 ·have:=n i _ h;cases this
 ·have:=n i _ h;cases this
theorem ObsOk.none{K:Frag}{F H:Hp}{τ:DS}{σ:St}(n:noObj τ):ObsOk K F τ σ H:=
 ⟨fun i m c fs h=>(by have:=n i _ h;cases this),fun i j m c c' fs a _ h=>(by have:=n i _ h;cases this),fun i c fs h=>(by have:=n i _ h;cases this),fun i j m c c' fs a a' l _ h=>(by have:=n i _ h;cases this),fun i j c ds a l h=>(n.obs h).elim⟩
theorem ObsOk.get{K:Frag}{F H:Hp}{τ:DS}{σ:St}{i:Nat}{c:Str}(o:ObsOk K F τ σ H)(h:ObS τ[i]? c):∃a C dx vs fs,σ[i]?=some (some (.ref a))∧H a=some (.ins C dx vs)∧Flds K F H c fs vs:=by
 rcases h with ⟨m,fs,h⟩|⟨fs,h⟩
 ·obtain⟨a,h1,C,dx,vs,h2,_,_,h5,_⟩:=o.at_ i m c fs h
  exact⟨a,C,dx,vs,fs,h1,h2,h5⟩
 ·obtain⟨a,C,dx,vs,h1,h2,_,h5⟩:=o.rd i c fs h
  exact⟨a,C,dx,vs,fs,h1,h2,h5⟩
theorem ObsOk.keep{K:Frag}{F H F' H':Hp}{τ:DS}{σ:St}(o:ObsOk K F τ σ H)(hf:Same F F')(hi:∀a C dx vs,H a=some (.ins C dx vs)→H' a=some (.ins C dx vs))(hn:∀a C dx vs,H a=some (.ins C dx vs)→F a=Option.none→F' a=Option.none)(hd:∀d a,H d=some (.own a)→H' d=some (.own a))
  (hl:∀(i:Nat) (c:Str) (a l:Addr) (ws:List V),ObS τ[i]? c→σ[i]?=some (some (.ref a))→l∈Lof H c a→H l=some (.lst ws)→F l=Option.none→H' l=some (.lst ws)∧F' l=Option.none):ObsOk K F' τ σ H':=by
 have lof:∀{i:Nat} {c:Str} {a:Addr},ObS τ[i]? c→σ[i]?=some (some (.ref a))→Lof H' c a=Lof H c a:=fun {i c a} h e=>by
  obtain⟨a',C,dx,vs,fs,h1,h2,_⟩:=o.get h
  rw[e] at h1;cases h1
  rw[Lof.ins h2,Lof.ins (hi _ _ _ _ h2)]
 refine⟨fun i m c fs h=>?_,o.dis,fun i c fs h=>?_,fun i j m c c' fs a a' l hij h1 h2 h3 h4 h5 h6=>?_,fun i j c ds a l h1 h2 h3 h4 h5=>?_⟩
 ·obtain⟨a,h1,C,dx,vs,h2,h3,h4,h5,h6,h7⟩:=o.at_ i m c fs h
  exact⟨a,h1,C,dx,vs,hi _ _ _ _ h2,hn _ _ _ _ h2 h3,h4,h5.keep hf fun l ws q=>hl i c a l ws (.inl ⟨m,fs,h⟩) h1 (by rw[Lof.ins h2];exact q),hd _ _ h6,h7⟩
 ·obtain⟨a,C,dx,vs,h1,h2,h4,h5⟩:=o.rd i c fs h
  exact⟨a,C,dx,vs,h1,hi _ _ _ _ h2,h4,h5.keep hf fun l ws q=>hl i c a l ws (.inr ⟨fs,h⟩) h1 (by rw[Lof.ins h2];exact q)⟩
 ·rw[lof (.inl ⟨m,fs,h1⟩) h3] at h5
  rw[lof h2 h4] at h6
  exact o.ll i j m c c' fs a a' l hij h1 h2 h3 h4 h5 h6
 ·rw[lof h1 h3] at h5
  exact o.lo i j c ds a l h1 h2 h3 h4 h5
theorem ObsOk.ext{K:Frag}{F H F' H':Hp}{τ:DS}{σ:St}(o:ObsOk K F τ σ H)(x:Ext F H F' H'):ObsOk K F' τ σ H':=by
 have nF:∀{a:Addr} {u:HO},H a=some u→F a=Option.none→F' a=Option.none:=fun {a u} h h3=>by
  cases q:F' a with
  |none=>rfl
  |some w=>
   rcases x.nw a w q with z|z
   ·rw[h3] at z;cases z
   ·rw[h] at z;cases z
 exact o.keep x.ff (fun a C dx vs h=>x.hh _ _ h) (fun a C dx vs h=>nF h) (fun d a h=>x.hh _ _ h) fun i c a l ws _ _ _ h h3=>⟨x.hh _ _ h,nF h h3⟩
theorem ObsOk.updL{K:Frag}{F H:Hp}{τ:DS}{σ:St}{p:Addr}{u:HO}(o:ObsOk K F τ σ H)(hl:H p=.none∨∃vs,H p=some (.lst vs))(hp:∀(i:Nat) (c:Str) (a:Addr),ObS τ[i]? c→σ[i]?=some (some (.ref a))→p∉Lof H c a):ObsOk K F τ σ (upd H p u):=by
 have ne:∀{a:Addr} {w:HO},H a=some w→(∀vs,w≠.lst vs)→a≠p:=fun {a w} h n z=>by
  subst z
  rcases hl with z|⟨ws,z⟩
  ·rw[z] at h;cases h
  ·rw[z] at h;cases h;exact n _ rfl
 refine o.keep (Same.refl F) (fun a C dx vs h=>?_) (fun a C dx vs _ h=>h) (fun d a h=>?_) fun i c a l ws h1 h2 h3 h4 h5=>⟨?_,h5⟩
 ·rw[zi (ne h fun _ z=>nomatch z)];exact h
 ·rw[zi (ne h fun _ z=>nomatch z)];exact h
 ·have:l≠p:=fun z=>by subst z;exact hp i c a h1 h2 h3
  rw[zi this];exact h4
omit [Tabs] in
theorem yH{τ:DS}{i j:Nat}{s u:Option Sl}(hs:VA s=false)(hu:VA u=true)(h:(τ.set i s)[j]?=some u):i≠j∧τ[j]?=some u:=by
 by_cases hij:i=j
 ·subst hij
  rw[getElem?_set] at h
  simp only[if_true] at h
  split at h
  ·cases h;rw[hs] at hu;cases hu
  ·cases h
 ·rw[getElem?_set_ne hij] at h;exact⟨hij,h⟩
omit [Tabs] in
theorem uT{τ:DS}{i j:Nat}{s:Option Sl}{c:Str}(hs:VA s=false)(h:ObS (τ.set i s)[j]? c):i≠j∧ObS τ[j]? c:=by
 rcases h with ⟨n,fs,h⟩|⟨fs,h⟩
 ·obtain⟨a,b⟩:=yH hs rfl h;exact⟨a,.inl ⟨n,fs,b⟩⟩
 ·obtain⟨a,b⟩:=yH hs rfl h;exact⟨a,.inr ⟨fs,b⟩⟩
theorem ObsOk.put{K:Frag}{F H:Hp}{τ:DS}{σ:St}{i:Nat}{s:Option Sl}{v:Option V}(o:ObsOk K F τ σ H)(hs:VA s=false)(hw:∀ds l,s=some (.own ds)→v=some (.ref l)→∀(j:Nat) (c:Str) (a:Addr),ObS τ[j]? c→σ[j]?=some (some (.ref a))→l∉Lof H c a):ObsOk K F (τ.set i s) (σ.set i v) H:=
 ⟨fun j m c fs h=>by
  obtain⟨n,h⟩:=yH hs rfl h
  rw[getElem?_set_ne n];exact o.at_ j m c fs h,
  fun j k m c c' fs a hjk h1 h2 h3 h4=>by
   obtain⟨n1,h1⟩:=yH hs rfl h1
   obtain⟨n2,h2⟩:=uT hs h2
   rw[getElem?_set_ne n1] at h3
   rw[getElem?_set_ne n2] at h4
   exact o.dis j k m c c' fs a hjk h1 h2 h3 h4,
  fun j c fs h=>by
   obtain⟨n,h⟩:=yH hs rfl h
   rw[getElem?_set_ne n];exact o.rd j c fs h,
  fun j k m c c' fs a a' l hjk h1 h2 h3 h4=>by
   obtain⟨n1,h1⟩:=yH hs rfl h1
   obtain⟨n2,h2⟩:=uT hs h2
   rw[getElem?_set_ne n1] at h3
   rw[getElem?_set_ne n2] at h4
   exact o.ll j k m c c' fs a a' l hjk h1 h2 h3 h4,
  fun j k c ds a l h1 h2 h3 h4 h5=>by
   obtain⟨n1,g1⟩:=uT hs h1
   rw[getElem?_set_ne n1] at h3
   by_cases e:i=k
   ·subst e
    rw[getElem?_set] at h2 h4
    simp only[if_true] at h2 h4
    split at h2
    ·split at h4
     ·exact hw ds l (by simpa using h2) (by simpa using h4) j c a g1 h3 h5
     ·cases h4
    ·cases h2
   ·rw[getElem?_set_ne e] at h2 h4
    exact o.lo j k c ds a l g1 h2 h3 h4 h5⟩
theorem ObsOk.putS{K:Frag}{F H:Hp}{τ:DS}{σ:St}{i:Nat}{ds es:List D}(o:ObsOk K F τ σ H)(hi:τ[i]?=some (some (.own ds))):ObsOk K F (τ.set i (some (.own es))) σ H:=
 ⟨fun j m c fs h=>o.at_ j m c fs (yH (s:=some (.own es)) rfl rfl h).2,fun j k m c c' fs a hjk h1 h2=>o.dis j k m c c' fs a hjk (yH (s:=some (.own es)) rfl rfl h1).2 (uT (s:=some (.own es)) rfl h2).2,fun j c fs h=>o.rd j c fs (yH (s:=some (.own es)) rfl rfl h).2,
  fun j k m c c' fs a a' l hjk h1 h2=>o.ll j k m c c' fs a a' l hjk (yH (s:=some (.own es)) rfl rfl h1).2 (uT (s:=some (.own es)) rfl h2).2,fun j k c ds' a l h1 h2 h3 h4 h5=>by
   have h1:=(uT (s:=some (.own es)) rfl h1).2
   by_cases e:i=k
   ·subst e;exact o.lo j i c ds a l h1 hi h3 h4 h5
   ·rw[getElem?_set_ne e] at h2;exact o.lo j k c ds' a l h1 h2 h3 h4 h5⟩
theorem ObsOk.fresh{K:Frag}{F H:Hp}{τ:DS}{σ:St}{p:Addr}(o:ObsOk K F τ σ H)(hp:H p=.none):∀(i:Nat) (c:Str) (a:Addr),ObS τ[i]? c→σ[i]?=some (some (.ref a))→p∉Lof H c a:=fun i c a h e hl=>by
 obtain⟨a',C,dx,vs,fs,h1,h2,h3⟩:=o.get h
 rw[e] at h1;cases h1
 rw[Lof.ins h2] at hl
 obtain⟨_,ws,q⟩:=h3.own hl
 rw[hp] at q;cases q
theorem ObsOk.lof{K:Frag}{F H:Hp}{τ:DS}{σ:St}{i:Nat}{c:Str}{a p:Addr}{u:HO}(o:ObsOk K F τ σ H)(h1:ObS τ[i]? c)(h2:σ[i]?=some (some (.ref a)))(hl:H p=.none∨∃vs,H p=some (.lst vs)):Lof (upd H p u) c a=Lof H c a:=by
 obtain⟨a',C,dx,vs,fs,h3,h4,_⟩:=o.get h1
 rw[h2] at h3;cases h3
 have:a≠p:=fun z=>by
  subst z
  rcases hl with z|⟨ws,z⟩
  ·rw[z] at h4;cases h4
  ·rw[z] at h4;cases h4
 rw[Lof.ins h4,Lof.ins (show upd H p u a=some (.ins C dx vs) by rw[zi this];exact h4)]
structure RV(K:Frag)(F:Hp)(τ:DS)(σ:St)(H:Hp):Prop where
 fh:Same F H
 len:τ.length=σ.length
 val:∀(i:Nat) (d:D),τ[i]?=some (some (.val d))→∃v,σ[i]?=some (some v)∧Rep K F d v
 own:∀(i:Nat) (ds:List D),τ[i]?=some (some (.own ds))→∃a vs,σ[i]?=some (some (.ref a))∧H a=some (.lst vs)∧F a=none∧Reps K F ds vs
 dis:∀(i j:Nat) (ds es:List D) (a:Addr),i≠j→τ[i]?=some (some (.own ds))→τ[j]?=some (some (.own es))→σ[i]?=some (some (.ref a))→σ[j]?=some (some (.ref a))→False
 tt:TbT F H
 ob:ObsOk K F τ σ H
theorem RV.ext{K:Frag}{F H F' H':Hp}{τ:DS}{σ:St}(R:RV K F τ σ H)(x:Ext F H F' H'):RV K F' τ σ H':=
 ⟨x.fh,R.len,fun i d e=>by
  obtain⟨v,h1,h2⟩:=R.val i d e
  exact⟨v,h1,h2.mono x.ff⟩,
  fun i ds e=>by
   obtain⟨a,vs,h1,h2,h3,h4⟩:=R.own i ds e
   refine⟨a,vs,h1,x.hh _ _ h2,?_,h4.mono x.ff⟩
   cases q:F' a with
   |none=>rfl
   |some o=>
    rcases x.nw a o q with z|z
    ·rw[h3] at z;cases z
    ·rw[h2] at z;exact absurd z (by simp),
  R.dis,x.tt R.tt,R.ob.ext x⟩
structure RS(K:Frag)(B Z F:Hp)(τ:DS)(σ:St)(H:Hp):Prop where
 rv:RV K F τ σ H
 bh:Hh B H
 zf:Same Z F
 nb:∀a o,F a=some o→Z a=some o∨B a=none
 ob:∀(i:Nat) (ds:List D) (a:Addr),τ[i]?=some (some (.own ds))→σ[i]?=some (some (.ref a))→B a=none
 oo:∀(i n:Nat) (c:Str) (fs:List (Str×D)) (a:Addr),τ[i]?=some (some (.obj n c fs))→σ[i]?=some (some (.ref a))→B a=none∧∀l∈Lof H c a,B l=none
 sf:∀(a0 dx:Addr),B dx=some (.own a0)→B a0=none→∀(i n:Nat) (c:Str) (fs:List (Str×D)),τ[i]?=some (some (.obj (n+1) c fs))→σ[i]?=some (some (.ref a0))
 ro:∀(i:Nat) (c:Str) (fs:List (Str×D)) (a:Addr),τ[i]?=some (some (.obr c fs))→σ[i]?=some (some (.ref a))→∃C dx vs,B a=some (.ins C dx vs)∧∀l∈y0 c vs,∃ws,B l=some (.lst ws)
theorem RS.ext{K:Frag}{B Z F H F' H':Hp}{τ:DS}{σ:St}(R:RS K B Z F τ σ H)(x:Ext F H F' H'):RS K B Z F' τ σ H':=
 ⟨R.rv.ext x,R.bh.trans x.hh,R.zf.trans x.ff,fun a o e=>by
  rcases x.nw a o e with q|q
  ·exact R.nb a o q
  ·exact .inr (xg R.bh q),R.ob,fun i n c fs a h1 h2=>by
  obtain⟨q1,q2⟩:=R.oo i n c fs a h1 h2
  refine⟨q1,fun l hl=>q2 l ?_⟩
  obtain⟨a',h3,C,dx,vs,h4,_⟩:=R.rv.ob.at_ i n c fs h1
  rw[h2] at h3;cases h3
  rw[Lof.ins h4]
  rw[Lof.ins (x.hh _ _ h4:H' a=some (.ins C dx vs))] at hl
  exact hl,R.sf,R.ro⟩
theorem RS.out{K:Frag}{B Z F H:Hp}{τ:DS}{σ:St}(R:RS K B Z F τ σ H):Ext Z B F H:=⟨R.zf,R.bh,R.rv.fh,R.nb,fun _=>R.rv.tt⟩
noncomputable def Xob(X:Cx)(c:Str):Prop:=∀e s',X.xe e s'
noncomputable def Ok(X:Cx){α:Type}(r:Rs α)(P:α→Prop):Prop:=match r with
 |.ok a=>P a
 |.ex c=>Xob X c
 |.no=>False
theorem Ok.bind{X:Cx}{α β:Type}{r:Rs α}{k:α→Rs β}{P:β→Prop}(h:Ok X (r.bind k) P):Ok X r fun a=>Ok X (k a) P:=by
 cases r <;> exact h
theorem Ok.imp{X:Cx}{α:Type}{r:Rs α}{P Q:α→Prop}(h:Ok X r P)(f:∀a,P a→Q a):Ok X r Q:=by
 cases r with
 |ok a=>exact f a h
 |ex c=>exact h
 |no=>exact h
noncomputable abbrev FE:=DS→Rs D
noncomputable abbrev FA:=DS→Rs (List D)
noncomputable abbrev FT:=DS→Rs Bool
noncomputable def Ev(K:Frag)(F H:Hp)(Q:VK)(d:D):Prop:=∀v F' H',Ext F H F' H'→Rep K F' d v→Q v H'
noncomputable def Evs(K:Frag)(F H:Hp)(Q:List V→Hp→Prop)(ds:List D):Prop:=∀vs F' H',Ext F H F' H'→Reps K F' ds vs→Q vs H'
noncomputable def Evb(F H:Hp)(Q:Bool→Hp→Prop)(b:Bool):Prop:=∀F' H',Ext F H F' H'→Q b H'
theorem Ev.ext{K:Frag}{F H F1 H1:Hp}{Q:VK}{d:D}(h:Ev K F H Q d)(x:Ext F H F1 H1):Ev K F1 H1 Q d:=fun v F' H' y r=>h v F' H' (x.trans y) r
theorem Evb.ext{F H F1 H1:Hp}{Q:Bool→Hp→Prop}{d:Bool}(h:Evb F H Q d)(x:Ext F H F1 H1):Evb F1 H1 Q d:=fun F' H' y=>h F' H' (x.trans y)
noncomputable def tE(X:Cx)(f:FE):TE:=fun σ H Q=>∃F τ,RV X.K F τ σ H∧Ok X (f τ) (Ev X.K F H Q)
noncomputable def tAs(X:Cx)(f:FA):TA:=fun σ H Q=>∃F τ,RV X.K F τ σ H∧Ok X (f τ) (Evs X.K F H Q)
noncomputable def tTs(X:Cx)(f:FT):TT:=fun σ H Q=>∃F τ,RV X.K F τ σ H∧Ok X (f τ) (Evb F H Q)
noncomputable def PDE(X:Cx)(e:Expr)(f:FE):Prop:=PE X e (tE X f)
noncomputable def PDA(X:Cx)(e:List Expr)(f:FA):Prop:=PA X e (tAs X f)
noncomputable def PDT(X:Cx)(e:Expr)(f:FT):Prop:=PT X e (tTs X f)
noncomputable def PDW(X:Cx)(e:Expr)(f:FT):Prop:=PW X e (tTs X f)
theorem _root_.L2.PE.imp{X:Cx}{e:Expr}{t t':TE}(h:PE X e t)(f:∀σ H Q,t' σ H Q→t σ H Q):PE X e t':=fun pins s σ H Q I q=>h pins s σ H Q I (f _ _ _ q)
theorem _root_.L2.PT.imp{X:Cx}{e:Expr}{t t':TT}(h:PT X e t)(f:∀σ H Q,t' σ H Q→t σ H Q):PT X e t':=fun pins s σ H Q I q=>h pins s σ H Q I (f _ _ _ q)
theorem _root_.L2.PW.imp{X:Cx}{e:Expr}{t t':TT}(h:PW X e t)(f:∀σ H Q,t' σ H Q→t σ H Q):PW X e t':=fun w pins s σ H Q I q=>h w pins s σ H Q I (f _ _ _ q)
theorem _root_.L2.PA.imp{X:Cx}{e:List Expr}{t t':TA}(h:PA X e t)(f:∀σ H Q,t' σ H Q→t σ H Q):PA X e t':=fun p pins s σ H Q I q=>h p pins s σ H Q I (f _ _ _ q)
theorem _root_.L2.PS.imp{X:Cx}{e:Stmt}{t t':TS}(h:PS X e t)(f:∀E σ H,t' E σ H→t E σ H):PS X e t':=fun pins s σ H Q I q=>h pins s σ H Q I (f _ _ _ q)
theorem _root_.L2.PSs.imp{X:Cx}{e:List Stmt}{t t':TS}(h:PSs X e t)(f:∀E σ H,t' E σ H→t E σ H):PSs X e t':=fun pins s σ H Q I q=>h pins s σ H Q I (f _ _ _ q)
theorem tE.of{X:Cx}{f:FE}{F H:Hp}{τ:DS}{σ:St}{Q:VK}{G:D→Prop}(R:RV X.K F τ σ H)(h:Ok X (f τ) G)
  (k:∀d v F1 H1,G d→Ext F H F1 H1→RV X.K F1 τ σ H1→Rep X.K F1 d v→Q v H1):tE X f σ H Q:=
 ⟨F,τ,R,h.imp fun d g v F1 H1 x r=>k d v F1 H1 g x (R.ext x) r⟩
theorem tAs.of{X:Cx}{f:FA}{F H:Hp}{τ:DS}{σ:St}{Q:List V→Hp→Prop}{G:List D→Prop}(R:RV X.K F τ σ H)(h:Ok X (f τ) G)
  (k:∀d v F1 H1,G d→Ext F H F1 H1→RV X.K F1 τ σ H1→Reps X.K F1 d v→Q v H1):tAs X f σ H Q:=
 ⟨F,τ,R,h.imp fun d g v F1 H1 x r=>k d v F1 H1 g x (R.ext x) r⟩
theorem tTs.of{X:Cx}{f:FT}{F H:Hp}{τ:DS}{σ:St}{Q:Bool→Hp→Prop}{G:Bool→Prop}(R:RV X.K F τ σ H)(h:Ok X (f τ) G)
  (k:∀b F1 H1,G b→Ext F H F1 H1→RV X.K F1 τ σ H1→Q b H1):tTs X f σ H Q:=
 ⟨F,τ,R,h.imp fun d g F1 H1 x=>k d F1 H1 g x (R.ext x)⟩
noncomputable def ze(i:Nat):FE:=fun τ=>match τ[i]? with
 | some (some (.val d))=>.ok d
 |_=>.no
section
variable{X:Cx}{pos:Pos}
theorem zb{i:Nat}{x:Str}(h:PE X (.Name x pos) (wX i)):PDE X (.Name x pos) (ze i):=h.imp fun σ H Q z_=>by
 obtain⟨F,τ,R,q⟩:=z_
 unfold ze at q
 cases e:τ[i]? with
 |none=>rw[e] at q;exact q.elim
 |some o=>
  cases o with
  |none=>rw[e] at q;exact q.elim
  |some sl=>
   cases sl with
   |own ds=>rw[e] at q;exact q.elim
   |obj n c fs=>rw[e] at q;exact q.elim
   |obr c fs=>rw[e] at q;exact q.elim
   |val d=>
    rw[e] at q
    obtain⟨v,h1,h2⟩:=R.val i d e
    exact⟨v,h1,q v F H (Ext.refl R.fh) h2⟩
noncomputable def eC(d:D):FE:=fun _=>.ok d
theorem Vg{e:Expr}{v:V}{d:D}(h:PE X e (tC v))(r:∀F,Rep X.K F d v):PDE X e (eC d):=h.imp fun σ H Q z_=>by obtain⟨F,τ,R,q⟩:=z_;exact q v F H (Ext.refl R.fh) (r F)
theorem zm{i j}:PDE X (.Constant (.int i) j pos) (eC (.int i)):=Vg Ud fun _=>by simp only[Rep]
theorem v6{i j}:PDE X (.Constant (.bool i) j pos) (eC (.bl i)):=Vg pe_bl fun _=>by simp only[Rep]
theorem Z5{j}:PDE X (.Constant .none j pos) (eC .non):=Vg zc7 fun _=>by simp only[Rep]
theorem wY{i j}:PDE X (.Constant (.str i) j pos) (eC (.str i)):=Vg zc5 fun _=>by simp only[Rep]
end
noncomputable def OpD(X:Cx)(g:Value→Value→Sem Value)(op:D→D→Rs D):Prop:=∃r:R2,OpR X g r ∧
 ∀F H x y dx dy Q,Same F H→Rep X.K F dx x→Rep X.K F dy y→Ok X (op dx dy) (Ev X.K F H Q)→r x y H Q
noncomputable def eOp(op:D→D→Rs D)(fa fb:FE):FE:=fun τ=>(fa τ).bind fun x=>(fb τ).bind fun y=>op x y
section
variable{X:Cx}{pos:Pos}{a b c:Expr}{fa fb fc:FE}
theorem Jg{r:R2}{op:D→D→Rs D}(hl:∀F H x y dx dy Q,Same F H→Rep X.K F dx x→Rep X.K F dy y→Ok X (op dx dy) (Ev X.K F H Q)→r x y H Q)
  (σ:St) (H:Hp) (Q:VK) (h:tE X (eOp op fa fb) σ H Q):tOp r (tE X fa) (tE X fb) σ H Q:=by
 obtain⟨F,τ,R,h⟩:=h
 refine tE.of R h.bind fun x u F1 H1 g x1 R1 r1=>?_
 refine tE.of R1 g.bind fun y v F2 H2 g2 x2 R2 r2=>?_
 exact hl F2 H2 u v x y Q R2.fh (r1.mono x2.ff) r2 (g2.imp fun d e=>e.ext (x1.trans x2))
theorem zC{o:Operator}{op:D→D→Rs D}(ho:OpD X (binaryOp o) op)(ha:PDE X a fa)(hb:PDE X b fb):PDE X (.BinOp a o b pos) (eOp op fa fb):=by
 obtain⟨r,h1,h2⟩:=ho
 exact(LS h1 ha hb).imp (Jg h2)
theorem v5{o:CmpOp}{op:D→D→Rs D}(ho:OpD X (compareOp o) op)(ha:PDE X a fa)(hb:PDE X b fb)(hm:behindInMarks o b=false):PDE X (.Compare a [o] [b] pos) (eOp op fa fb):=by
 obtain⟨r,h1,h2⟩:=ho
 exact(Tz h1 ha hb hm).imp (Jg h2)
noncomputable def tB(f:FE):FT:=fun τ=>(f τ).bind fun d=>match d with
 |.bl b=>.ok b
 |_=>.no
theorem MV{t:FE}{u:TE}(hi:∀σ H Q,tE X t σ H Q→u σ H Q)(σ:St)(H:Hp)(Q:Bool→Hp→Prop)(h:tTs X (tB t) σ H Q):LN u σ H Q:=by
 obtain⟨F,τ,R,h⟩:=h
 refine hi σ H _ (tE.of R h.bind fun d v F1 H1 g x R1 r=>?_)
 cases d with
 |bl k=>simp only[Rep] at r;exact⟨k,r,g F1 H1 x⟩
 |_=>exact g.elim
theorem z0{o:CmpOp}{op:D→D→Rs D}(ho:OpD X (compareOp o) op)(ha:PDE X a fa)(hb:PDE X b fb)(hm:behindInMarks o b=false):PDT X (.Compare a [o] [b] pos) (tB (eOp op fa fb)):=by
 obtain⟨r,h1,h2⟩:=ho
 exact(U2 h1 ha hb hm).imp (MV (Jg h2))
noncomputable def Zd:D→Rs Bool
 |.non=>.ok false
 |.bl b=>.ok b
 |.int i=>.ok (i != 0)
 |.str x=>if x.length≤sizeLine then .ok ((x.length:Int) != 0) else .no
 |.lst ds=>.ok (!ds.isEmpty)
 |.tup ds=>.ok (!ds.isEmpty)
 |.scr ns=>.ok (!ns.isEmpty)
 |.raw _=>.no
 |.exc _=>.no
 |.dct _ _=>.no
theorem jZ{K:Frag}{F:Hp}{ds:List D}{vs:List V}(h:Reps K F ds vs):ds.isEmpty=vs.isEmpty:=by
 have:=h.length
 cases ds <;> cases vs <;> simp_all
theorem V0{F H:Hp}{d:D}{v:V}{Q:Bool→Hp→Prop}(fh:Same F H)(r:Rep X.K F d v)(h:Ok X (Zd d) (fun b=>Q b H)):∃k,zi8 X.K v H k∧Q k H:=by
 cases d with
 |non=>simp only[Rep] at r;subst r;exact⟨_,rfl,h⟩
 |bl b=>simp only[Rep] at r;subst r;exact⟨_,rfl,h⟩
 |int i=>simp only[Rep] at r;subst r;exact⟨_,rfl,h⟩
 |str x=>
  simp only[Rep] at r;subst r
  (delta Zd at h;dsimp only at h)
  by_cases z:x.length≤sizeLine
  ·rw[if_pos z] at h;exact⟨_,⟨z,rfl⟩,h⟩
  ·rw[if_neg z] at h;exact h.elim
 |lst ds=>
  simp only[Rep] at r;obtain⟨a,vs,rfl,e,q⟩:=r
  refine⟨!vs.isEmpty,.inl ⟨vs,SqL.of (fh _ _ e),rfl⟩,?_⟩
  rw[← jZ q];exact h
 |tup ds=>
  simp only[Rep] at r;obtain⟨a,vs,rfl,e,q⟩:=r
  refine⟨!vs.isEmpty,.inr (.inl ⟨vs,Same.seqT fh e,rfl⟩),?_⟩
  rw[← jZ q];exact h
 |scr ns=>
  simp only[Rep] at r;obtain⟨a,rfl,e⟩:=r
  refine⟨!(ns.map V.int).isEmpty,.inl ⟨_,fh.seq e,rfl⟩,?_⟩
  have e2:(ns.map V.int).isEmpty=ns.isEmpty:=by cases ns <;> rfl
  rw[e2];exact h
 |raw u=>exact h.elim
 |exc c=>exact h.elim
 |dct _ _=>exact h.elim
noncomputable def ux(f:FE):FT:=fun τ=>(f τ).bind Zd
theorem uW(ha:PDE X a fa)(he:∀whole,isTrue a X.env whole=(do let v ← whole;standAt a.pos;holding [v] (truthy v)):=by intro _;rfl):PDT X a (ux fa):=
 (Gh ha he).imp fun σ H Q z_=>by obtain⟨F,τ,R,h⟩:=z_;exact tE.of R h.bind fun d v F1 H1 g x R1 r=>V0 R1.fh r (g.imp fun b e=>e F1 H1 x)
noncomputable def wl(f g:FT):FT:=fun τ=>(f τ).bind fun b=>if b=true then g τ else .ok false
noncomputable def WV(f g:FT):FT:=fun τ=>(f τ).bind fun b=>if b=true then .ok true else g τ
noncomputable def WW(f:FT):FT:=fun τ=>(f τ).bind fun b=>.ok (!b)
variable{ga gb:FT}{rest:List Expr}
theorem vO(ha:PDT X a ga):PDW X (.BoolOp .And [a] pos) ga:=Tj ha
theorem Wr(ha:PDT X a ga):PDW X (.BoolOp .Or [a] pos) ga:=zb2 ha
theorem uV(ha:PDT X a ga)(hb:PDW X (.BoolOp .And (b::rest) pos) gb):PDW X (.BoolOp .And (a::b::rest) pos) (wl ga gb):=
 PW.imp (zb4 ha hb) fun σ H Q z_=>by
  obtain⟨F,τ,R,h⟩:=z_
  refine tTs.of R h.bind fun k F1 H1 g x R1=>?_
  cases k with
  |true=>rw[if_pos rfl];rw[if_pos rfl] at g;exact⟨F1,τ,R1,g.imp fun d e=>e.ext x⟩
  |false=>rw[if_neg (by simp)];rw[if_neg (by simp)] at g;exact g F1 H1 x
theorem Ue(ha:PDT X a ga)(hb:PDW X (.BoolOp .Or (b::rest) pos) gb):PDW X (.BoolOp .Or (a::b::rest) pos) (WV ga gb):=
 PW.imp (pw_or ha hb) fun σ H Q z_=>by
  obtain⟨F,τ,R,h⟩:=z_
  refine tTs.of R h.bind fun k F1 H1 g x R1=>?_
  cases k with
  |false=>rw[if_neg (by simp)];rw[if_neg (by simp)] at g;exact⟨F1,τ,R1,g.imp fun d e=>e.ext x⟩
  |true=>rw[if_pos rfl];rw[if_pos rfl] at g;exact g F1 H1 x
theorem jR{e:Expr}(h:PDW X e ga):PDT X e ga:=PW.pt h
theorem TC(ha:PDT X a ga):PDT X (.UnaryOp .Not a pos) (WW ga):=
 PT.imp (zb5 ha) fun σ H Q z_=>by obtain⟨F,τ,R,h⟩:=z_;exact tTs.of R h.bind fun k F1 H1 g x R1=>g F1 H1 x
noncomputable def eIf(g:FT)(fa fb:FE):FE:=fun τ=>(g τ).bind fun b=>if b=true then fa τ else fb τ
theorem zd1(hc:PDT X c ga)(ha:PDE X a fa)(hb:PDE X b fb):PDE X (.IfExp c a b pos) (eIf ga fa fb):=
 PE.imp (Gn hc ha hb) fun σ H Q z_=>by
  obtain⟨F,τ,R,h⟩:=z_
  refine tTs.of R h.bind fun k F1 H1 g x R1=>?_
  cases k with
  |true=>rw[if_pos rfl];rw[if_pos rfl] at g;exact⟨F1,τ,R1,g.imp fun d e=>e.ext x⟩
  |false=>rw[if_neg (by simp)];rw[if_neg (by simp)] at g;exact⟨F1,τ,R1,g.imp fun d e=>e.ext x⟩
noncomputable def MC(fa fb:FE):FE:=fun τ=>(fa τ).bind fun x=>(Zd x).bind fun b=>if b=true then fb τ else .ok x
noncomputable def eOr(fa fb:FE):FE:=fun τ=>(fa τ).bind fun x=>(Zd x).bind fun b=>if b=true then .ok x else fb τ
theorem Z4{op}(h:PDE X a fa):PDE X (.BoolOp op [a] pos) fa:=zc6 h
theorem Jd(ha:PDE X a fa)(hb:PDE X (.BoolOp .And (b::rest) pos) fb):PDE X (.BoolOp .And (a::b::rest) pos) (MC fa fb):=by
 rintro pins s σ H Q I ⟨F,τ,R,h⟩
 refine BoolOp_and (thn (ha pins s σ H _ I (tE.of R h.bind fun d v F1 H1 g x R1 r=>(⟨d,F1,g,x,R1,r⟩:∃d F1,Ok X ((Zd d).bind fun b=>if b=true then fb τ else .ok d) (Ev X.K F H Q)∧Ext F H F1 H1∧RV X.K F1 τ σ H1∧Rep X.K F1 d v))) fun v s1 z_=>?_)
 obtain⟨x,H1,I1,r1,d,F1,g,x1,R1,r⟩:=z_
 refine thn (tru_ok pins s1 σ H1 x v (fun b H2=>H2=H1∧Ok X (if b=true then fb τ else .ok d) (Ev X.K F H Q)) I1 r1 (V0 (Q:=fun b H2=>H2=H1∧Ok X (if b=true then fb τ else .ok d) (Ev X.K F H Q)) R1.fh r (g.bind.imp fun b e=>⟨rfl,e⟩))) fun k s2 z_=>?_
 obtain⟨H2,I2,e2,q⟩:=z_
 subst e2
 cases k with
 |true=>rw[if_pos rfl] at q ⊢;exact hb pins s2 σ _ Q I2 ⟨F1,τ,R1,q.imp fun d e=>e.ext x1⟩
 |false=>rw[if_neg (by simp)] at q ⊢;exact⟨x,_,I2,r1,q x F1 _ x1 r⟩
theorem Gw(ha:PDE X a fa)(hb:PDE X (.BoolOp .Or (b::rest) pos) fb):PDE X (.BoolOp .Or (a::b::rest) pos) (eOr fa fb):=by
 rintro pins s σ H Q I ⟨F,τ,R,h⟩
 refine BoolOp_or (thn (ha pins s σ H _ I (tE.of R h.bind fun d v F1 H1 g x R1 r=>(⟨d,F1,g,x,R1,r⟩:∃d F1,Ok X ((Zd d).bind fun b=>if b=true then .ok d else fb τ) (Ev X.K F H Q)∧Ext F H F1 H1∧RV X.K F1 τ σ H1∧Rep X.K F1 d v))) fun v s1 z_=>?_)
 obtain⟨x,H1,I1,r1,d,F1,g,x1,R1,r⟩:=z_
 refine thn (tru_ok pins s1 σ H1 x v (fun b H2=>H2=H1∧Ok X (if b=true then .ok d else fb τ) (Ev X.K F H Q)) I1 r1 (V0 (Q:=fun b H2=>H2=H1∧Ok X (if b=true then .ok d else fb τ) (Ev X.K F H Q)) R1.fh r (g.bind.imp fun b e=>⟨rfl,e⟩))) fun k s2 z_=>?_
 obtain⟨H2,I2,e2,q⟩:=z_
 subst e2
 cases k with
 |false=>rw[if_neg (by simp)] at q ⊢;exact hb pins s2 σ _ Q I2 ⟨F1,τ,R1,q.imp fun d e=>e.ext x1⟩
 |true=>rw[if_pos rfl] at q ⊢;exact⟨x,_,I2,r1,q x F1 _ x1 r⟩
end
section
variable{X:Cx}{pos:Pos}{e:Expr}{es:List Expr}{fe:FE}{fs:FA}
noncomputable def zj:FA:=fun _=>.ok []
noncomputable def za(f:FE)(g:FA):FA:=fun τ=>(f τ).bind fun x=>(g τ).bind fun r=>.ok (x::r)
theorem zk:PDA X [] zj:=PA.imp Zn fun σ H Q z_=>by obtain⟨F,τ,R,h⟩:=z_;exact h [] F H (Ext.refl R.fh) Reps.nil
theorem zc(ha:PDE X e fe)(hr:PDA X es fs)(hs:starEach (e::es) X.env=(false,eval e X.env)::starEach es X.env:=by rfl):PDA X (e::es) (za fe fs):=
 PA.imp (uX ha hr hs) fun σ H Q ⟨F,τ,R,h⟩=>tE.of R h.bind fun x v F1 H1 g x1 R1 r1=>tAs.of R1 g.bind fun ys vs F2 H2 g2 x2 R2 r2=>
  g2 (v::vs) F2 H2 (x1.trans x2) (Reps.cons (r1.mono x2.ff) r2)
noncomputable def wO(f:FA):FE:=fun τ=>(f τ).bind fun ds=>if ds.length≤sizeLine then .ok (.tup ds) else .no
noncomputable def vJ(f:FA):FE:=fun τ=>(f τ).bind fun ds=>if ds.length≤sizeLine then .ok (.lst ds) else .no
theorem yL{X:Cx}{α:Type}{c:Prop}[Decidable c]{a:α}{P:α→Prop}(h:Ok X (if c then .ok a else .no) P):c∧P a:=by
 by_cases z:c
 ·rw[if_pos z] at h;exact⟨z,h⟩
 ·rw[if_neg z] at h;exact h.elim
theorem vo{x1}(h:PDA X es fs):PDE X (.Tuple es x1 pos) (wO fs):=
 PE.imp (zc4 h) fun σ H Q z_=>by
  obtain⟨F,τ,R,hq⟩:=z_
  refine tAs.of R hq.bind fun ds vs F1 H1 g x R1 r=>?_
  obtain⟨z,g⟩:=yL g
  refine⟨by rw[← r.length];exact z,fun p hp=>g (.ref p) _ _ (x.trans (Ext.new R1.fh hp)) ?_⟩
  simp only[Rep]
  exact⟨p,vs,rfl,SqT.of zn,r.mono (z7 (zH R1.fh hp))⟩
theorem vq(h:PDA X es fs):PDE X (.List es pos) (vJ fs):=
 PE.imp (Gm h) fun σ H Q z_=>by
  obtain⟨F,τ,R,hq⟩:=z_
  refine tAs.of R hq.bind fun ds vs F1 H1 g x R1 r=>?_
  obtain⟨z,g⟩:=yL g
  refine⟨by rw[← r.length];exact z,fun p hp=>g (.ref p) _ _ (x.trans (Ext.new R1.fh hp)) ?_⟩
  simp only[Rep]
  exact⟨p,vs,rfl,zn,r.mono (z7 (zH R1.fh hp))⟩
end
inductive Fl where
 | nx (τ:DS) | rt (d:D) | bk (τ:DS) | ct (τ:DS) | ex (c:Str) | no
 | rs (c:Str) (τ:DS)
 | ro (d:D) (τ:DS)
 | rb (i:Nat) (τ:DS)
noncomputable def Nw(X:Cx)(H:Hp)(b:Addr):Prop:=H b=none∧X.s₀.heap.get? b=none∧∀p∈X.pn,p.1≠b
noncomputable def ExcAt(X:Cx)(H:Hp)(h:Heap)(a:Addr)(cls:Value):Prop:=Nw X H a∧∃oe vs,h.get? a=some oe∧oe.cls=cls∧oe.dict=none∧oe.data=.fields vs ∧
 (vs[1]?=some .none∨∃T oT ts fl,vs[1]?=some (.ref T)∧Nw X H T∧T≠a∧h.get? T=some oT∧oT.data=.fields ts∧ts[3]?=some fl)∧vs[2]?=some .none
noncomputable def XA(X:Cx)(c:Str)(σ:St)(H:Hp):Prop:=∀s a cls,nsIn X.K mainGlobals c=some (some cls)→Inv X [] σ H s→ExcAt X H s.heap a cls→X.xe (.ref a) s
noncomputable abbrev FS:=DS→Fl
noncomputable def Post(X:Cx)(B Z F:Hp)(E:Xx):Fl→Prop
 |.nx τ=>∀σ F' H',Same F F'→RS X.K B Z F' τ σ H'→E.nx σ H'
 |.bk τ=>∀σ F' H',Same F F'→RS X.K B Z F' τ σ H'→E.bk σ H'
 |.ct τ=>∀σ F' H',Same F F'→RS X.K B Z F' τ σ H'→E.ct σ H'
 |.rt d=>∀v F' H',Ext Z B F' H'→Rep X.K F' d v→E.rt v H'
 |.ex c=>Xob X c
 |.no=>False
 |.rs c τ=>∀σ F' H',Same F F'→RS X.K B Z F' τ σ H'→XA X c σ H'
 |.ro d τ=>∀v σ F' H',Same F F'→RS X.K B Z F' τ σ H'→Rep X.K F' d v→E.rt v H'
 |.rb i τ=>∀v σ F' H',Same F F'→RS X.K B Z F' τ σ H'→σ[i]?=some (some v)→E.rt v H'
theorem Post.same{X:Cx}{B Z F F1:Hp}{E:Xx}{r:Fl}(h:Post X B Z F E r)(f:Same F F1):Post X B Z F1 E r:=by
 cases r with
 |nx τ=>exact fun σ F' H' g R=>h σ F' H' (f.trans g) R
 |bk τ=>exact fun σ F' H' g R=>h σ F' H' (f.trans g) R
 |ct τ=>exact fun σ F' H' g R=>h σ F' H' (f.trans g) R
 |rt d=>exact h
 |ex c=>exact h
 |no=>exact h
 |rs c τ=>exact fun σ F' H' g R=>h σ F' H' (f.trans g) R
 |ro d τ=>exact fun v σ F' H' g R r=>h v σ F' H' (f.trans g) R r
 |rb i τ=>exact fun v σ F' H' g R r=>h v σ F' H' (f.trans g) R r
noncomputable def tS(X:Cx)(f:FS):TS:=fun E σ H=>∃B Z F τ,RS X.K B Z F τ σ H∧Post X B Z F E (f τ)
noncomputable def PDS(X:Cx)(st:Stmt)(f:FS):Prop:=PS X st (tS X f)
noncomputable def uk(X:Cx)(st:List Stmt)(f:FS):Prop:=PSs X st (tS X f)
noncomputable def Fl.of{α:Type}(r:Rs α)(k:α→Fl):Fl:=match r with
 |.ok a=>k a
 |.ex c=>.ex c
 |.no=>.no
@[simp] theorem Fl.of_ok{α:Type}(a:α)(k:α→Fl):Fl.of (.ok a) k=k a:=rfl
theorem Post.of{X:Cx}{B Z F:Hp}{E:Xx}{α:Type}{r:Rs α}{k:α→Fl}(h:Post X B Z F E (Fl.of r k)):Ok X r fun a=>Post X B Z F E (k a):=by
 cases r <;> exact h
section
variable{X:Cx}{pos:Pos}{e:Expr}{es:List Expr}{fe:FE}{fs:FA}{st:Stmt}{rest:List Stmt}{f g:FS}{c:Expr}{gc:FT}
noncomputable def yj:FS:=fun τ=>.nx τ
noncomputable def zS(f g:FS):FS:=fun τ=>match f τ with
 |.nx τ'=>g τ'
 |r=>r
theorem yg:uk X [] yj:=PSs.imp Tp fun E σ H z_=>by obtain⟨B,Z,F,τ,R,h⟩:=z_;exact h σ F H (Same.refl F) R
theorem zq(h:PDS X st f):uk X [st] f:=uU h
theorem zp(h1:PDS X st f)(h2:uk X rest g):uk X (st::rest) (zS f g):=
 PSs.imp (uA h1 h2) fun E σ H z_=>by
  obtain⟨B,Z,F,τ,R,h⟩:=z_
  refine⟨B,Z,F,τ,R,?_⟩
  unfold zS at h
  cases q:f τ with
  |nx τ'=>rw[q] at h;exact fun σ' F' H' ff R'=>⟨B,Z,F',τ',R',Post.same h ff⟩
  |rt d=>rw[q] at h;exact h
  |bk d=>rw[q] at h;exact h
  |ct d=>rw[q] at h;exact h
  |ex d=>rw[q] at h;exact h
  |no=>rw[q] at h;exact h
  |rs c d=>rw[q] at h;exact h
  |ro c d=>rw[q] at h;exact h
  |rb c d=>rw[q] at h;exact h
noncomputable def yK(fe:FE):FS:=fun τ=>Fl.of (fe τ) fun d=>.rt d
theorem tE.at{B Z F H:Hp}{τ:DS}{σ:St}{Q:VK}{G:D→Prop}(R:RS X.K B Z F τ σ H)(h:Ok X (fe τ) G)
  (k:∀d v F1 H1,G d→Ext F H F1 H1→RS X.K B Z F1 τ σ H1→Rep X.K F1 d v→Q v H1):tE X fe σ H Q:=
 tE.of R.rv h fun d v F1 H1 g x _ r=>k d v F1 H1 g x (R.ext x) r
theorem zM(he:PDE X e fe):PDS X (.Return (some e) pos) (yK fe):=
 PS.imp (Yo he) fun E σ H z_=>by obtain⟨B,Z,F,τ,R,h⟩:=z_;exact tE.at R h.of fun d v F1 H1 g x R1 r=>g v F1 H1 R1.out r
noncomputable def sIf(gc:FT)(f g:FS):FS:=fun τ=>Fl.of (gc τ) fun b=>if b=true then f τ else g τ
theorem xf{a b:List Stmt}(hc:PDT X c gc)(ha:uk X a f)(hb:uk X b g):PDS X (.If c a b pos) (sIf gc f g):=
 PS.imp (LR hc ha hb) fun E σ H z_=>by
  obtain⟨B,Z,F,τ,R,h⟩:=z_
  refine tTs.of R.rv h.of fun k F1 H1 q x _=>?_
  cases k with
  |true=>rw[if_pos rfl] at q ⊢;exact⟨B,Z,F1,τ,R.ext x,q.same x.ff⟩
  |false=>rw[if_neg (by simp)] at q ⊢;exact⟨B,Z,F1,τ,R.ext x,q.same x.ff⟩
theorem RV.set{K:Frag}{F H:Hp}{τ:DS}{σ:St}{i:Nat}{d:D}{v:V}(R:RV K F τ σ H)(r:Rep K F d v):RV K F (τ.set i (some (.val d))) (σ.set i (some v)) H:=by
 refine⟨R.fh,by simp[R.len],fun j e h=>?_,fun j es h=>?_,fun j k ds es a hjk h1 h2 h3 h4=>?_,?_,?_⟩
 ·by_cases hij:i=j
  ·subst hij
   have hlt:i<τ.length:=by
    rcases lt_or_ge i τ.length with z|z
    ·exact z
    ·rw[List.getElem?_eq_none_iff.mpr (by simpa using z)] at h;cases h
   rw[getElem?_set_self hlt] at h
   cases h
   exact⟨v,by rw[getElem?_set_self (by rw[← R.len];exact hlt)],r⟩
  ·rw[getElem?_set_ne hij] at h ⊢
   exact R.val j e h
 ·by_cases hij:i=j
  ·subst hij
   rw[getElem?_set] at h
   simp only[if_true] at h
   split at h <;> cases h
  ·rw[getElem?_set_ne hij] at h ⊢
   exact R.own j es h
 ·have n1:i≠j:=fun z=>by
   subst z
   rw[getElem?_set] at h1
   simp only[if_true] at h1
   split at h1 <;> cases h1
  have n2:i≠k:=fun z=>by
   subst z
   rw[getElem?_set] at h2
   simp only[if_true] at h2
   split at h2 <;> cases h2
  rw[getElem?_set_ne n1] at h1 h3
  rw[getElem?_set_ne n2] at h2 h4
  exact R.dis j k ds es a hjk h1 h2 h3 h4
 ·exact R.tt
 ·exact R.ob.put rfl fun _ _ z=>by cases z
theorem RS.set{K:Frag}{B Z F H:Hp}{τ:DS}{σ:St}{i:Nat}{d:D}{v:V}(R:RS K B Z F τ σ H)(r:Rep K F d v):RS K B Z F (τ.set i (some (.val d))) (σ.set i (some v)) H:=
 ⟨R.rv.set r,R.bh,R.zf,R.nb,fun j ds a h1 h2=>by
  have n1:i≠j:=fun z=>by
   subst z
   rw[getElem?_set] at h1
   simp only[if_true] at h1
   split at h1 <;> cases h1
  rw[getElem?_set_ne n1] at h1 h2
  exact R.ob j ds a h1 h2,fun j m c fs a h1 h2=>by
  obtain⟨n,h1⟩:=yH (s:=some (.val d)) rfl rfl h1
  rw[getElem?_set_ne n] at h2
  exact R.oo j m c fs a h1 h2,fun a0 dx b1 b2 j m c fs h=>by
  obtain⟨n,h⟩:=yH (s:=some (.val d)) rfl rfl h
  rw[getElem?_set_ne n]
  exact R.sf a0 dx b1 b2 j m c fs h,fun j c fs a h1 h2=>by
  obtain⟨n,h1⟩:=yH (s:=some (.val d)) rfl rfl h1
  rw[getElem?_set_ne n] at h2
  exact R.ro j c fs a h1 h2⟩
noncomputable def y3(i:Nat)(fe:FE):FS:=fun τ=>Fl.of (fe τ) fun d=>.nx (τ.set i (some (.val d)))
theorem yk{i:Nat}{x:Str}{pos':Pos}(hN:X.N.Nodup)(hi:X.N[i]?=some x)(hx:Loc X.env.scope x)(he:PDE X e fe)(hs:swapsWith e (some (.Name x pos')) pos.line X.env=pure false:=by rfl)(hf:X.fn x=true∨X.env.scope.names.lookup x=some .local:=by first|exact .inl rfl|exact .inr rfl|assumption) :
  PDS X (.Assign [.Name x pos'] e pos) (y3 i fe):=
 PS.imp (Yn hN hi hx he hs hf) fun E σ H z_=>by obtain⟨B,Z,F,τ,R,h⟩:=z_;exact tE.at R h.of fun d v F1 H1 g x R1 r=>g _ F1 H1 x.ff (R1.set r)
noncomputable def tFr(X:Cx)(f:FA):TE:=fun σ H Q=>∃F τ,RV X.K F τ σ H∧Ok X (f τ) fun ds=>∀p vs F' H',Ext F H F' H'→H' p=none→Reps X.K F' ds vs→Q (.ref p) (upd H' p (.lst vs))
noncomputable def PDF(X:Cx)(e:Expr)(f:FA):Prop:=PE X e (tFr X f)
theorem Wt(h:PDA X es fs):PDF X (.List es pos) (fun τ=>(fs τ).bind fun ds=>if ds.length≤sizeLine then .ok ds else .no):=
 PE.imp (Gm h) fun σ H Q z_=>by
  obtain⟨F,τ,R,hq⟩:=z_
  refine tAs.of R hq.bind fun ds vs F1 H1 g x R1 r=>?_
  obtain⟨z,g⟩:=yL g
  exact⟨by rw[← r.length];exact z,fun p hp=>g p vs F1 H1 x hp r⟩
theorem vF{ff:FA}(h:PDF X e ff):PDE X e (fun τ=>(ff τ).bind fun ds=>.ok (.lst ds)):=
 PE.imp h fun σ H Q ⟨F,τ,R,hq⟩=>⟨F,τ,R,hq.bind.imp fun ds g p vs F1 H1 x hp r=>by
  refine g (.ref p) _ _ (x.trans (Ext.new x.fh hp)) ?_
  simp only[Rep]
  exact⟨p,vs,rfl,zn,r.mono (z7 (zH x.fh hp))⟩⟩
noncomputable def vN(i:Nat)(ff:FA):FS:=fun τ=>Fl.of (ff τ) fun ds=>.nx (τ.set i (some (.own ds)))
theorem RV.setO{K:Frag}{F H:Hp}{τ:DS}{σ:St}{i:Nat}{p:Addr}{ds:List D}{vs:List V}(R:RV K F τ σ H)(hp:H p=none)(r:Reps K F ds vs):RV K F (τ.set i (some (.own ds))) (σ.set i (some (.ref p))) (upd H p (.lst vs)):=by
 have nofr:=zH R.fh hp
 have hlt:∀{o:Sl},(τ.set i (some (.own ds)))[i]?=some (some o)→i<τ.length:=fun {o} h=>by
  rcases lt_or_ge i τ.length with z|z
  ·exact z
  ·rw[List.getElem?_eq_none_iff.mpr (by simpa using z)] at h;cases h
 refine⟨R.fh.trans (z7 hp),by simp[R.len],fun j e h=>?_,fun j es h=>?_,fun j k es es' a hjk h1 h2 h3 h4=>?_,?_,?_⟩
 ·by_cases hij:i=j
  ·subst hij
   rw[getElem?_set_self (hlt h)] at h;cases h
  ·rw[getElem?_set_ne hij] at h ⊢
   exact R.val j e h
 ·by_cases hij:i=j
  ·subst hij
   have l:=hlt h
   rw[getElem?_set_self l] at h
   cases h
   exact⟨p,vs,by rw[getElem?_set_self (by rw[← R.len];exact l)],zn,nofr,r⟩
  ·rw[getElem?_set_ne hij] at h ⊢
   obtain⟨a,ws,q1,q2,q3,q4⟩:=R.own j es h
   exact⟨a,ws,q1,by rw[zi (zF q2 hp)];exact q2,q3,q4⟩
 ·by_cases n1:i=j
  ·subst n1
   rw[getElem?_set_ne hjk] at h2 h4
   obtain⟨a',ws,q1,q2,q3,q4⟩:=R.own k es' h2
   rw[q1] at h4;cases h4
   have l:=hlt h1
   rw[getElem?_set_self (by rw[← R.len];exact l)] at h3
   cases h3
   rw[hp] at q2;cases q2
  ·by_cases n2:i=k
   ·subst n2
    rw[getElem?_set_ne (Ne.symm hjk)] at h1 h3
    obtain⟨a',ws,q1,q2,q3,q4⟩:=R.own j es h1
    rw[q1] at h3;cases h3
    have l:=hlt h2
    rw[getElem?_set_self (by rw[← R.len];exact l)] at h4
    cases h4
    rw[hp] at q2;cases q2
   ·rw[getElem?_set_ne n1] at h1 h3
    rw[getElem?_set_ne n2] at h2 h4
    exact R.dis j k es es' a hjk h1 h2 h3 h4
 ·exact R.tt.step (fun _ _ e=>.inl e) (fun b o e _=>by rw[zi (zF e hp)];exact e) (vG fun _ z=>nomatch z)
 ·have o1:ObsOk K F (τ.set i (some (.own ds))) (σ.set i (some (.ref p))) H:=R.ob.put rfl fun _ l _ z=>by
   cases z;exact R.ob.fresh hp
  exact o1.updL (.inl hp) (o1.fresh hp)
theorem RS.setO{K:Frag}{B Z F H:Hp}{τ:DS}{σ:St}{i:Nat}{p:Addr}{ds:List D}{vs:List V}(R:RS K B Z F τ σ H)(hp:H p=none)(r:Reps K F ds vs):RS K B Z F (τ.set i (some (.own ds))) (σ.set i (some (.ref p))) (upd H p (.lst vs)):=
 ⟨R.rv.setO hp r,R.bh.trans (.of (z7 hp)),R.zf,R.nb,fun j es a h1 h2=>by
  by_cases n1:i=j
  ·subst n1
   have l:i<τ.length:=by
    rcases lt_or_ge i τ.length with z|z
    ·exact z
    ·rw[List.getElem?_eq_none_iff.mpr (by simpa using z)] at h1;cases h1
   rw[getElem?_set_self (by rw[← R.rv.len];exact l)] at h2
   cases h2
   exact xg R.bh hp
  ·rw[getElem?_set_ne n1] at h1 h2
   exact R.ob j es a h1 h2,fun j m c fs a h1 h2=>by
  obtain⟨n,h1⟩:=yH (s:=some (.own ds)) rfl rfl h1
  rw[getElem?_set_ne n] at h2
  rw[R.rv.ob.lof (.inl ⟨m,fs,h1⟩) h2 (.inl hp)]
  exact R.oo j m c fs a h1 h2,fun a0 dx b1 b2 j m c fs h=>by
  obtain⟨n,h⟩:=yH (s:=some (.own ds)) rfl rfl h
  rw[getElem?_set_ne n]
  exact R.sf a0 dx b1 b2 j m c fs h,fun j c fs a h1 h2=>by
  obtain⟨n,h1⟩:=yH (s:=some (.own ds)) rfl rfl h1
  rw[getElem?_set_ne n] at h2
  exact R.ro j c fs a h1 h2⟩
theorem Yr{i:Nat}{x:Str}{pos':Pos}{ff:FA}(hN:X.N.Nodup)(hi:X.N[i]?=some x)(hx:Loc X.env.scope x)(he:PDF X e ff)(hs:swapsWith e (some (.Name x pos')) pos.line X.env=pure false:=by rfl)(hf:X.fn x=true∨X.env.scope.names.lookup x=some .local:=by first|exact .inl rfl|exact .inr rfl|assumption) :
  PDS X (.Assign [.Name x pos'] e pos) (vN i ff):=
 PS.imp (Yn hN hi hx he hs hf) fun E σ H z_=>by obtain⟨B,Z,F,τ,R,h⟩:=z_;exact⟨F,τ,R.rv,h.of.imp fun ds g p vs F1 H1 x hp r=>g _ F1 _ x.ff ((R.ext x).setO hp r)⟩
theorem RV.own_upd{K:Frag}{F H:Hp}{τ:DS}{σ:St}{i:Nat}{p:Addr}{ds es:List D}{ws:List V}(R:RV K F τ σ H)(h:τ[i]?=some (some (.own ds)))(hp:σ[i]?=some (some (.ref p)))(r:Reps K F es ws) :
  RV K F (τ.set i (some (.own es))) σ (upd H p (.lst ws)):=by
 obtain⟨a,vs,q1,q2,q3,q4⟩:=R.own i ds h
 rw[q1] at hp;cases hp
 have l:i<τ.length:=(List.getElem?_eq_some_iff.mp h).1
 refine⟨fun b o e=>?_,by simp[R.len],fun j e h'=>?_,fun j es' h'=>?_,fun j k e1 e2 b hjk h1 h2 h3 h4=>?_,?_,?_⟩
 ·have n:b≠p:=fun z=>by subst z;rw[q3] at e;cases e
  rw[zi n];exact R.fh b o e
 ·by_cases hij:i=j
  ·subst hij;rw[getElem?_set_self l] at h';cases h'
  ·rw[getElem?_set_ne hij] at h';exact R.val j e h'
 ·by_cases hij:i=j
  ·subst hij
   rw[getElem?_set_self l] at h';cases h'
   exact⟨p,ws,q1,zn,q3,r⟩
  ·rw[getElem?_set_ne hij] at h'
   obtain⟨a',vs',z1,z2,z3,z4⟩:=R.own j es' h'
   have n:a'≠p:=fun z=>by subst z;exact R.dis i j ds es' a' hij h h' q1 z1
   exact⟨a',vs',z1,by rw[zi n];exact z2,z3,z4⟩
 ·have:∀{m:Nat} {e:List D},(τ.set i (some (.own es)))[m]?=some (some (.own e))→∃e',τ[m]?=some (some (.own e')):=fun {m e} z=>by
   by_cases him:i=m
   ·subst him;exact⟨ds,h⟩
   ·rw[getElem?_set_ne him] at z;exact⟨e,z⟩
  obtain⟨x1,y1⟩:=this h1
  obtain⟨x2,y2⟩:=this h2
  exact R.dis j k x1 x2 b hjk y1 y2 h3 h4
 ·exact R.tt.step (fun _ _ e=>.inl e) (fun b o e n=>by
   have:b≠p:=fun z=>by subst z;rw[q2] at e;cases e;exact n _ rfl
   rw[zi this];exact e) (vG fun _ z=>nomatch z)
 ·exact(R.ob.updL (.inr ⟨vs,q2⟩) fun j c a g1 g2 hl=>R.ob.lo j i c ds a p g1 h g2 q1 hl).putS h
theorem RS.own_upd{K:Frag}{B Z F H:Hp}{τ:DS}{σ:St}{i:Nat}{p:Addr}{ds es:List D}{ws:List V}(R:RS K B Z F τ σ H)(h:τ[i]?=some (some (.own ds)))(hp:σ[i]?=some (some (.ref p)))(r:Reps K F es ws) :
  RS K B Z F (τ.set i (some (.own es))) σ (upd H p (.lst ws)):=by
 have hb:=R.ob i ds p h hp
 refine⟨R.rv.own_upd h hp r,fun b o e=>?_,R.zf,R.nb,fun j e a h1 h2=>?_,fun j m c fs a h1 h2=>?_,fun a0 dx b1 b2 j m c fs h=>R.sf a0 dx b1 b2 j m c fs (yH (s:=some (.own es)) rfl rfl h).2,fun j c fs a h1 h2=>R.ro j c fs a (yH (s:=some (.own es)) rfl rfl h1).2 h2⟩
 ·have n:b≠p:=fun z=>by subst z;rw[hb] at e;cases e
  rw[zi n];exact R.bh b o e
 ·by_cases him:i=j
  ·subst him;exact R.ob i ds a h h2
  ·rw[getElem?_set_ne him] at h1;exact R.ob j e a h1 h2
 ·have h1:=(yH (s:=some (.own es)) rfl rfl h1).2
  obtain⟨p',vs,q1,q2,_⟩:=R.rv.own i ds h
  rw[q1] at hp;cases hp
  rw[R.rv.ob.lof (.inl ⟨m,fs,h1⟩) h2 (.inr ⟨vs,q2⟩)]
  exact R.oo j m c fs a h1 h2
noncomputable def jf(τ:DS)(i:Nat):Rs (List D):=match τ[i]? with
 | some (some (.own ds))=>.ok ds
 |_=>.no
theorem uD{τ:DS}{i:Nat}{P:List D→Prop}(h:Ok X (jf τ i) P):∃ds,τ[i]?=some (some (.own ds))∧P ds:=by
 unfold jf at h
 cases q:τ[i]? with
 |none=>rw[q] at h;exact h.elim
 |some o=>
  cases o with
  |none=>rw[q] at h;exact h.elim
  |some sl=>
   cases sl with
   |val d=>rw[q] at h;exact h.elim
   |obj n c fs=>rw[q] at h;exact h.elim
   |obr c fs=>rw[q] at h;exact h.elim
   |own ds=>rw[q] at h;exact⟨ds,rfl,h⟩
noncomputable def Xg(i:Nat)(fe:FE):FS:=fun τ=>Fl.of (jf τ i) fun ds=>Fl.of (fe τ) fun d=>if ds.length<sizeLine then .nx (τ.set i (some (.own (ds++[d])))) else .no
theorem Ws{i:Nat}{x:Str}{p1 apos cpos:Pos}(hx:PE X (.Name x p1) (wX i))(he:PDE X e fe)
  (hfew:((backTo cpos (starEach [e] X.env)).all (fun x=>!x.1)&&(backToKw cpos (keywordEach [] X.env)).all (fun x=>x.1.isSome)
   && decide ([e].length+([]:List Keyword).length+(if ([]:List Keyword).isEmpty then 0 else 1)<30))=true:=by rfl)
  (hline:(apos.endLine==cpos.line)=true:=by rfl) (hs:starEach [e] X.env=[(false,eval e X.env)]:=by rfl) (hplain:(backTo cpos (starEach [] X.env)).any (·.1)=false:=by rfl)
  (hbase:attributeBase (.Name x p1) "append" X.env (eval (.Name x p1) X.env)=eval (.Name x p1) X.env:=by rfl)
  (hsw:swapsWith (.Call (.Attribute (.Name x p1) "append" apos) [e] [] cpos) none pos.line X.env=pure false:=by rfl) :
  PDS X (.Expr (.Call (.Attribute (.Name x p1) "append" apos) [e] [] cpos) pos) (Xg i fe):=
 PS.imp (U5 (LV PySem.F.plainAttrs_list PySem.F.slot_list_append PySem.F.type_list_append Zr hx (uX he Zn (by rw[hs];rfl)) hbase hfew hline (by rw[hs];rfl) hplain) hsw) fun E σ H z_=>by
  obtain⟨B,Z,F,τ,R,h⟩:=z_
  obtain⟨ds,h1,h2⟩:=uD (X:=X) (Post.of h)
  obtain⟨a,vs,q1,q2,q3,q4⟩:=R.rv.own i ds h1
  refine⟨_,q1,.inl ⟨rfl,vs,SqL.of q2⟩,?_⟩
  refine tE.at R h2.of fun d v F1 H1 g x R1 r=>?_
  by_cases z:ds.length<sizeLine
  ·rw[if_pos z] at g
   refine⟨a,vs,v,rfl,rfl,x.hh _ _ q2,by rw[← q4.length];exact z,?_⟩
   exact g _ F1 _ x.ff (R1.own_upd h1 q1 ((q4.mono x.ff).append (Reps.cons r Reps.nil)))
  ·rw[if_neg z] at g;exact g.elim
noncomputable def J2(i:Nat)(fi fe:FE):FS:=fun τ=>Fl.of (fe τ) fun d=>Fl.of (jf τ i) fun ds=>Fl.of (fi τ) fun k=>match k with
 |.int k=>match ixN ds.length k with
  |some j=>.nx (τ.set i (some (.own (ds.set j d))))
  |none=>.no
 |_=>.no
theorem TD{i:Nat}{x:Str}{p1 spos:Pos}{ix:Expr}{fi:FE}(hx:PE X (.Name x p1) (wX i))(hi:PDE X ix fi)(he:PDE X e fe)
  (ha:∀v,assign (.Subscript (.Name x p1) ix spos) X.env v=(do
   let ov ← holding [v] (eval (.Name x p1) X.env)
   let iv ← holding [v,ov] (eval ix X.env)
   standAt spos
   holding [v,ov,iv] (setItem ov iv v)
   release [v,ov,iv] []):=by intro _;rfl)
  (hs:swapsWithSole [.Subscript (.Name x p1) ix spos] e pos.line X.env=pure false:=by rfl) (hw:swappedStores [.Subscript (.Name x p1) ix spos] e X.env=pure none:=by rfl)
  (h1:(assignEach [.Subscript (.Name x p1) ix spos] X.env).map (·.2)=[assign (.Subscript (.Name x p1) ix spos) X.env]:=by rfl) :
  PDS X (.Assign [.Subscript (.Name x p1) ix spos] e pos) (J2 i fi fe):=
 PS.imp (zb7 he (zc2 hx hi Q1 ha) hs hw h1) fun E σ H z_=>by
  obtain⟨B,Z,F,τ,R,h⟩:=z_
  refine tE.at R h.of fun d v F1 H1 g x R1 r=>?_
  obtain⟨ds,h1,h2⟩:=uD (X:=X) (Post.of g)
  obtain⟨a,vs,q1,q2,q3,q4⟩:=R1.rv.own i ds h1
  refine⟨_,q1,?_⟩
  refine tE.at R1 h2.of fun k w F2 H2 g2 x2 R2 r2=>?_
  cases k with
  |int k=>
   simp only[Rep] at r2
   simp only at g2
   cases q:ixN ds.length k with
   |none=>rw[q] at g2;exact g2.elim
   |some j=>
    rw[q] at g2
    refine⟨a,vs,k,j,rfl,r2,x2.hh _ _ q2,by rw[← q4.length];exact q,?_⟩
    exact g2 _ F2 _ (x.ff.trans x2.ff) (R2.own_upd h1 q1 (Reps.set (r.mono x2.ff) j (q4.mono x2.ff)))
  |_=>exact g2.elim
noncomputable def ul(i:Nat):FS:=fun τ=>Fl.of (jf τ i) fun ds=>.rt (.lst ds)
theorem jS{i:Nat}{x:Str}{p1:Pos}(hx:PE X (.Name x p1) (wX i)):PDS X (.Return (some (.Name x p1)) pos) (ul i):=
 PS.imp (Yo hx) fun E σ H z_=>by
  obtain⟨B,Z,F,τ,R,h⟩:=z_
  obtain⟨ds,h1,h2⟩:=uD (X:=X) (Post.of h)
  obtain⟨a,vs,q1,q2,q3,q4⟩:=R.rv.own i ds h1
  have hb:=R.ob i ds a h1 q1
  refine⟨_,q1,h2 (.ref a) (upd F a (.lst vs)) H ⟨?_,R.bh,fun b o e=>?_,fun b o e=>?_,fun _=>R.rv.tt.freeze q2⟩ ?_⟩
  ·exact R.zf.trans (z7 q3)
  ·by_cases z:b=a
   ·subst z;rw[zn] at e;cases e;exact q2
   ·rw[zi z] at e;exact R.rv.fh b o e
  ·by_cases z:b=a
   ·subst z;exact .inr hb
   ·rw[zi z] at e;exact R.nb b o e
  ·simp only[Rep]
   exact⟨a,vs,rfl,zn,q4.mono (z7 q3)⟩
noncomputable def QA(i:Nat)(fi:FE):FE:=fun τ=>(jf τ i).bind fun ds=>(fi τ).bind fun k=>match k with
 |.int k=>match atI ds k with
  |some d=>.ok d
  |none=>.no
 |_=>.no
theorem Xa{K:Frag}{F:Hp}{ds:List D}{vs:List V}{k:Int}{d:D}(r:Reps K F ds vs)(h:atI ds k=some d):∃v,atI vs k=some v∧Rep K F d v:=by
 unfold atI at h ⊢
 rw[← r.length]
 cases q:ixN ds.length k with
 |none=>rw[q] at h;cases h
 |some j=>
  rw[q] at h
  exact r.get h
theorem TL{i:Nat}{x:Str}{p1:Pos}{ix:Expr}{fi:FE}(hx:PE X (.Name x p1) (wX i))(hi:PDE X ix fi)(hs:WR ix:=by intro _ _;rfl):PDE X (.Subscript (.Name x p1) ix pos) (QA i fi):=
 PE.imp (LU ix_list hx hi hs) fun σ H Q z_=>by
  obtain⟨F,τ,R,h⟩:=z_
  obtain⟨ds,h1,h2⟩:=uD (X:=X) (Ok.bind h)
  obtain⟨a,vs,q1,q2,q3,q4⟩:=R.own i ds h1
  refine⟨_,q1,?_⟩
  refine tE.of R h2.bind fun k w F2 H2 g2 x2 R2 r2=>?_
  cases k with
  |int k=>
   simp only[Rep] at r2
   simp only at g2
   cases q:atI ds k with
   |none=>rw[q] at g2;exact g2.elim
   |some d=>
    rw[q] at g2
    obtain⟨v,z1,z2⟩:=Xa q4 q
    exact⟨a,vs,k,v,rfl,r2,SqL.of (x2.hh _ _ q2),z1,g2 v F2 H2 x2 (z2.mono x2.ff)⟩
  |_=>exact g2.elim
noncomputable def j4(i:Nat):FE:=fun τ=>(jf τ i).bind fun ds=>.ok (.int ds.length)
theorem Yv{i:Nat}{x:Str}{p1 p:Pos}(hx:PE X (.Name x p1) (wX i))(hg:Gl X "len")(hm:X.mg "len" = none)
  (he:starEach [.Name x p1] X.env=[(false,eval (.Name x p1) X.env)]:=by rfl) (hpl:(backTo pos (starEach [] X.env)).any (·.1)=false:=by rfl):PDE X (.Call (.Name "len" p) [.Name x p1] [] pos) (j4 i):=
 PE.imp (pe_callB call_len_seq hg hm PySem.boot_len (uX hx Zn (by rw[he];rfl)) (he:=by rw[he];rfl) (hpl:=hpl)) fun σ H Q z_=>by
  obtain⟨F,τ,R,h⟩:=z_
  obtain⟨ds,h1,h2⟩:=uD (X:=X) (Ok.bind h)
  obtain⟨a,vs,q1,q2,q3,q4⟩:=R.own i ds h1
  refine⟨_,q1,a,vs,rfl,.inl (SqL.of q2),?_⟩
  rw[← q4.length]
  exact h2 (.int ds.length) F H (Ext.refl R.fh) (by simp only[Rep])
end
noncomputable def VW(K:Frag)(J:It)(F1:Hp)(ds:List D):Prop:=∀(i:Nat) (F H:Hp),Same F1 F→Same F H →
 (ds.length≤i→J.stop i H)∧∀d,ds[i]?=some d→J.go i H∧∀x H',J.yld i H x H'→∃F',Ext F H F' H'∧Rep K F' d x
noncomputable def tI(X:Cx)(f:FA):TI:=fun σ H R=>∃F τ,RV X.K F τ σ H∧Ok X (f τ) fun ds=>∀J F1 H1,Ext F H F1 H1→VW X.K J F1 ds→R J H1
noncomputable def PDI(X:Cx)(tg iter:Expr)(f:FA):Prop:=PI X tg iter (tI X f)
theorem _root_.L2.PI.imp{X:Cx}{tg e:Expr}{t t':TI}(h:PI X tg e t)(f:∀σ H Q,t' σ H Q→t σ H Q):PI X tg e t':=fun pins s σ H Q I q=>h pins s σ H Q I (f _ _ _ q)
section
variable{X:Cx}{pos:Pos}{e tg:Expr}{es:List Expr}{fe:FE}{fs:FA}
theorem Jx{K:Frag}{a:Addr}{F1:Hp}{ds:List D}{vs:List V}(e:SqL K F1 a vs)(r:Reps K F1 ds vs):VW K (Itl K a) F1 ds:=fun i F H f1 f2=>by
 have q:SqL K H a vs:=(f1.trans f2).seq e
 refine⟨fun h=>⟨vs,q,by rw[← r.length];exact h⟩,fun d hd=>?_⟩
 obtain⟨v,h1,h2⟩:=r.get hd
 refine⟨⟨vs,v,q,h1⟩,fun x H' y=>?_⟩
 obtain⟨e1,y⟩:=y
 subst e1
 have h3:=y vs q
 rw[h1] at h3;cases h3
 exact⟨F,Ext.refl f2,h2.mono f1⟩
theorem zg4{K:Frag}{a:Addr}{F1:Hp}{ds:List D}{vs:List V}(e:SqT K F1 a vs)(r:Reps K F1 ds vs):VW K (Itt K a) F1 ds:=fun i F H f1 f2=>by
 have q:SqT K H a vs:=Same.seqT (f1.trans f2) e
 refine⟨fun h=>⟨vs,q,by rw[← r.length];exact h⟩,fun d hd=>?_⟩
 obtain⟨v,h1,h2⟩:=r.get hd
 refine⟨⟨vs,v,q,h1⟩,fun x H' y=>?_⟩
 obtain⟨e1,y⟩:=y
 subst e1
 have h3:=y vs q
 rw[h1] at h3;cases h3
 exact⟨F,Ext.refl f2,h2.mono f1⟩
noncomputable def jb(lo:Int)(n:Nat):List D:=(List.range n).map fun (k:Nat)=>D.int (lo+k)
theorem zg6{K:Frag}{F1:Hp}{lo:Int}{n:Nat}:VW K (Itr lo n) F1 (jb lo n):=fun i F H f1 f2=>by
 have hl:(jb lo n).length=n:=by simp[jb]
 refine⟨fun h=>by rw[hl] at h;exact h,fun d hd=>?_⟩
 have hi:i<n:=by have:=(List.getElem?_eq_some_iff.mp hd).1;rw[hl] at this;exact this
 refine⟨hi,fun x H' y=>?_⟩
 obtain⟨e1,y⟩:=y
 subst e1
 refine⟨F,Ext.refl f2,?_⟩
 simp[jb,hi] at hd
 subst hd
 simp only[Rep];exact y
noncomputable def Uu:List D→Option Int
 |[.int j]=>some j
 |_=>none
noncomputable def Ut:List D→Option (Int×Int)
 |[.int i,.int j]=>some (i,j)
 |_=>none
noncomputable def Yx:D→Option (D×D)
 |.tup [x,y]=>some (x,y)
 |_=>none
theorem JA{ds:List D}{j:Int}(h:Uu ds=some j):ds=[.int j]:=by
 unfold Uu at h;split at h <;> cases h;rfl
theorem Jz{ds:List D}{i j:Int}(h:Ut ds=some (i,j)):ds=[.int i,.int j]:=by
 unfold Ut at h;split at h <;> cases h;rfl
theorem GA{d x y:D}(h:Yx d=some (x,y)):d=.tup [x,y]:=by
 unfold Yx at h;split at h <;> cases h;rfl
noncomputable def wM(fs:FA):FA:=fun τ=>(fs τ).bind fun ds=>match Uu ds with
 |some j=>if -(2 ^ 62)≤j∧j<2 ^ 62 then .ok (jb 0 j.toNat) else .no
 |none=>.no
theorem wy{a:Expr}{p:Pos}(hg:Gl X "range")(hm:X.mg "range" = none)(ha:PDA X [a] fs)(hs:starEach [a] X.env=[(false,eval a X.env)]:=by rfl):PDI X tg (.Call (.Name "range" p) [a] [] pos) (wM fs):=
 PI.imp (J7 hg hm ha hs) fun σ H R z_=>by
  obtain⟨F,τ,Rv,h⟩:=z_
  refine tAs.of Rv h.bind fun ds vs F1 H1 g x R1 r=>?_
  cases q1:Uu ds with
  |none=>rw[q1] at g;exact g.elim
  |some j=>
   rw[q1] at g
   have e:=JA q1
   subst e
   obtain⟨v,rfl,q⟩:=r.one
   simp only[Rep] at q;subst q
   obtain⟨z,g⟩:=yL g
   exact⟨j,rfl,z.1,z.2,g _ F1 H1 x zg6⟩
noncomputable abbrev FG:=D→DS→Rs DS
noncomputable def tG(X:Cx)(set:FG):TG:=fun v σ H Q=>∃F τ d,RV X.K F τ σ H∧Rep X.K F d v∧Ok X (set d τ) fun τ'=>∀σ',RV X.K F τ' σ' H→(∀B Z,RS X.K B Z F τ σ H→RS X.K B Z F τ' σ' H)→σ'.length=σ.length→Q σ' H
noncomputable def PDG(X:Cx)(tg:Expr)(set:FG):Prop:=PG X tg (tG X set)
theorem _root_.L2.PG.imp{X:Cx}{e:Expr}{t t':TG}(h:PG X e t)(f:∀v σ H Q,t' v σ H Q→t v σ H Q):PG X e t':=fun pins s σ H v u Q I r q=>h pins s σ H v u Q I r (f _ _ _ _ q)
noncomputable def gNm(i:Nat):FG:=fun d τ=>.ok (τ.set i (some (.val d)))
theorem yM{i:Nat}{x:Str}(hN:X.N.Nodup)(hi:X.N[i]?=some x)(hx:Loc X.env.scope x)(hf:X.fn x=true∨X.env.scope.names.lookup x=some .local:=by first|exact .inl rfl|exact .inr rfl|assumption):PDG X (.Name x pos) (gNm i):=
 PG.imp (jQ hN hi hx hf) fun v σ H Q z_=>by obtain⟨F,τ,d,R,r,h⟩:=z_;exact h _ (R.set r) (fun B Z R'=>R'.set r) (by simp)
noncomputable def gPr(i j:Nat):FG:=fun d τ=>match Yx d with
 | some (x,y)=>.ok ((τ.set i (some (.val x))).set j (some (.val y)))
 |none=>.no
theorem Yt{i j k:Nat}{x y:Str}{px py:Pos}(hc:X.calm=true)(hN:X.N.Nodup)(hi:X.N[i]?=some x)(hx:Loc X.env.scope x)(hj:X.N[j]?=some y)(hy:Loc X.env.scope y)
  (hf:X.fn x=true∨X.env.scope.names.lookup x=some .local:=by first|exact .inl rfl|exact .inr rfl|assumption) (hf':X.fn y=true∨X.env.scope.names.lookup y=some .local:=by first|exact .inl rfl|exact .inr rfl|assumption) :
  PDG X (.Tuple [.Name x px,.Name y py] k pos) (gPr i j):=
 PG.imp (zc1 (n:=2) hc (Vc (jQ hN hi hx hf) (Vc (jQ hN hj hy hf') Tu))) fun v σ H Q z_=>by
  obtain⟨F,τ,d,R,r,h⟩:=z_
  unfold gPr at h
  cases q1:Yx d with
  |none=>rw[q1] at h;exact h.elim
  |some xy=>
   obtain⟨x,y⟩:=xy
   rw[q1] at h
   have e:=GA q1
   subst e
   simp only[Rep] at r
   obtain⟨a,vs,rfl,q,t⟩:=r
   obtain⟨v1,v2,rfl,r1,r2⟩:=t.two
   exact⟨a,_,rfl,Same.seqT R.fh q,rfl,v1,[v2],rfl,v2,[],rfl,rfl,h _ ((R.set r1).set r2) (fun B Z R'=>(R'.set r1).set r2) (by simp)⟩
noncomputable def y7(set:FG)(body:FS):List D→DS→Fl
 |[],τ=>.nx τ
 |d::r,τ=>Fl.of (set d τ) fun τ1=>match body τ1 with
  |.nx τ'=>y7 set body r τ'
  |.ct τ'=>y7 set body r τ'
  |.bk τ'=>.nx τ'
  |.rt d=>.rt d
  |.ro d τ'=>.ro d τ'
  |.rb d τ'=>.rb d τ'
  |.ex c=>.ex c
  |.no=>.no
  |.rs c τ'=>.rs c τ'
noncomputable def ut(fi:FA)(set:FG)(body:FS):FS:=fun τ=>Fl.of (fi τ) fun ds=>y7 set body ds τ
theorem vn{iter:Expr}{body:List Stmt}{fi:FA}{set:FG}{fb:FS}(hp:PassesOwn (model X.prog X.w) X.A X.env X.xe)(hc:X.calm=true)(hi:PDI X tg iter fi)(hg:PDG X tg set)(hb:uk X body fb)
  (hs:∀x,foldedSetIterable iter X.env x=pure x:=by intro _;rfl):PDS X (.For tg iter body [] pos) (ut fi set fb):=
 PS.imp (Uc hp hc hi hg hb hs) fun E σ H z_=>by
  obtain⟨B,Z,F,τ,R,h⟩:=z_
  refine⟨F,τ,R.rv,h.of.imp fun ds g J F1 H1 x io=>?_⟩
  refine⟨fun i m σ H=>m=ds.length-i∧i≤ds.length∧∃F' τ',Same F1 F'∧RS X.K B Z F' τ' σ H∧Post X B Z F' E (y7 set fb (ds.drop i) τ'),⟨ds.length,by simp,zero_le _,F1,τ,Same.refl _,R.ext x,g.same x.ff⟩,?_⟩
  rintro i m σ2 H2 ⟨rfl,hi,F2,τ2,f2,R2,p2⟩
  obtain⟨i1,i2⟩:=io i F2 H2 f2 R2.rv.fh
  by_cases hlt:i<ds.length
  ·have hd:ds.drop i=ds[i]::ds.drop (i+1):=drop_eq_getElem_cons hlt
   rw[hd] at p2
   obtain⟨go,yl⟩:=i2 ds[i] (by simp[hlt])
   refine .inr ⟨go,fun σ' H'=>∃F' τ',Same F2 F'∧RS X.K B Z F' τ' σ' H'∧Post X B Z F' E (y7 set fb (ds.drop (i+1)) τ'),fun σ' H' ⟨F',τ',a,b,c⟩=>⟨ds.length-(i+1),by lia,rfl,hlt,F',τ',f2.trans a,b,c⟩,fun y H' yy=>?_⟩
   obtain⟨F3,x3,r3⟩:=yl y H' yy
   have R3:=R2.ext x3
   refine⟨F3,τ2,ds[i],R3.rv,r3,(Post.of p2).imp fun τ4 p4 σ4 _ R4 _=>⟨B,Z,F3,τ4,R4 B Z R3,?_⟩⟩
   cases q:fb τ4 with
   |nx τ5=>rw[q] at p4;exact fun σ' F' H' ff RR=>⟨F',τ5,x3.ff.trans ff,RR,Post.same p4 (x3.ff.trans ff)⟩
   |ct τ5=>rw[q] at p4;exact fun σ' F' H' ff RR=>⟨F',τ5,x3.ff.trans ff,RR,Post.same p4 (x3.ff.trans ff)⟩
   |bk τ5=>rw[q] at p4;exact fun σ' F' H' ff RR=>p4 σ' F' H' (x3.ff.trans ff) RR
   |rt d=>rw[q] at p4;exact p4
   |ro d τ'=>rw[q] at p4;exact fun v σ' F' H' ff RR rr=>p4 v σ' F' H' (x3.ff.trans ff) RR rr
   |rb d τ'=>rw[q] at p4;exact fun v σ' F' H' ff RR rr=>p4 v σ' F' H' (x3.ff.trans ff) RR rr
   |ex c=>rw[q] at p4;exact p4
   |no=>rw[q] at p4;exact p4
   |rs c τ5=>rw[q] at p4;exact fun σ' F' H' ff RR=>p4 σ' F' H' (x3.ff.trans ff) RR
  ·have e:i=ds.length:=by lia
   subst e
   rw[drop_length] at p2
   exact .inl ⟨i1 (le_refl _),p2 σ2 F2 H2 (Same.refl _) R2⟩
end
noncomputable def Qf(r:Rs D):Rs D:=match r with
 |.ok d=>.ok d
 |_=>.no
noncomputable def spD(K:Frag)(n:Nat)(g:List D→Rs D):Sp:=fun vs H Q E=>vs.length=n∧∃ds F,Same F H∧TbT F H∧Reps K F ds vs∧match g ds with
 |.ok d=>Ev K F H Q d
 |_=>False
noncomputable def zX(N:Nat)(ds:List D):DS:=ds.map (fun d=>some (.val d))++List.replicate (N-ds.length) none
noncomputable def YW:Fl→Rs D
 |.rt d=>.ok d
 |.ro d _=>.ok d
 |.nx _=>.ok .non
 |.rs c _=>.ex c
 |_=>.no
noncomputable def xG(N:Nat)(fb:FS)(ds:List D):Rs D:=YW (fb (zX N ds))
theorem W8{K:Frag}{F H:Hp}{N:List Str}{ds:List D}{vs:List V}(fh:Same F H)(tt:TbT F H)(r:Reps K F ds vs):RS K H F F (zX N.length ds) (L2.start N vs) H:=by
 have hl:=r.length
 have hval:∀(i:Nat) (o:Sl),(zX N.length ds)[i]?=some (some o)→∃d,ds[i]?=some d∧o=.val d:=fun i o h=>by
  unfold zX at h
  by_cases hi:i<ds.length
  ·rw[getElem?_append_left (by simpa using hi),getElem?_map] at h
   cases e:ds[i]? with
   |none=>rw[e] at h;cases h
   |some d=>rw[e] at h;cases h;exact⟨d,rfl,rfl⟩
  ·rw[getElem?_append_right (by simpa using hi),getElem?_replicate] at h
   split at h <;> cases h
 refine⟨⟨fh,?_,fun i d h=>?_,fun i es h=>?_,fun i j es es' a _ h1 _ _ _=>?_,tt,ObsOk.none fun i s h=>?_⟩,Hh.refl H,Same.refl F,fun a o e=>.inl e,fun i es a h1 _=>?_,fun i m c fs a h1 _=>?_,fun a0 dx _ _ j m c fs h1=>?_,fun j c fs a h1 _=>?_⟩
 ·simp[zX,L2.start,hl]
 ·obtain⟨d',h1,h2⟩:=hval i _ h
  cases h2
  obtain⟨v,q1,q2⟩:=r.get h1
  refine⟨v,?_,q2⟩
  have hi:i<vs.length:=(List.getElem?_eq_some_iff.mp q1).1
  unfold L2.start
  rw[getElem?_append_left (by simpa using hi),getElem?_map,q1];rfl
 ·obtain⟨_,_,h2⟩:=hval i _ h;cases h2
 ·obtain⟨_,_,h2⟩:=hval i _ h1;cases h2
 ·cases s with
  |none=>rfl
  |some o=>obtain⟨_,_,h2⟩:=hval i _ h;rw[h2];rfl
 ·obtain⟨_,_,h2⟩:=hval i _ h1;cases h2
 ·obtain⟨_,_,h2⟩:=hval i _ h1;cases h2
 ·obtain⟨_,_,h2⟩:=hval j _ h1;cases h2
 ·obtain⟨_,_,h2⟩:=hval j _ h1;cases h2
section
variable{P:Program}{w:World}{K:Frag}{mg:Str→Option Value}{base:Heap}
theorem fnD{x qual:Str}{st:Stmt}{f:Addr}{fd:FuncData}{N ps:List Str}{k n:Nat}{fb:FS}(F:Fun K x qual st f fd)(S:zJ N ps (zh st))(hn:ps.length=n)
  (hbody:∀(cdv:Value) (A:Around) (outer:List Env) (s:Shared) (H:Hp) (E:XK),Room k (A.deeper (envOfC qual (zh st) s.heap.objs.size f cdv)) →
   uk (j5 CX0 P w K mg base N qual (zh st) f cdv A outer s H E).nox (zB st) fb):FnOk P w K mg base CX0 (k+1) f fd ps (spD K n (xG N.length fb)):=by
 refine F.ok S (fun vs H Q E h=>by rw[hn];exact h.1) fun cdv A outer s H vs Q E hr h=>⟨_,hbody cdv A outer s H E hr,?_⟩
 obtain⟨hl,ds,Fz,fh,tt,r,h⟩:=h
 refine⟨H,Fz,Fz,zX N.length ds,W8 fh tt r,?_⟩
 unfold xG at h
 cases q:fb (zX N.length ds) with
 |nx τ=>rw[q] at h;exact fun σ F' H' ff RR=>h .non F' H' RR.out (by simp only[Rep])
 |rt d=>rw[q] at h;exact fun v F' H' x rr=>h v F' H' x rr
 |ro d τ=>rw[q] at h;exact fun v σ F' H' ff RR rr=>h v F' H' RR.out rr
 |rb d τ=>rw[q] at h;exact h.elim
 |bk τ=>rw[q] at h;exact h.elim
 |ct τ=>rw[q] at h;exact h.elim
 |ex c=>rw[q] at h;exact h.elim
 |no=>rw[q] at h;exact h.elim
 |rs c τ=>rw[q] at h;exact h.elim
theorem FnD.to{CX:CXT}{f:Addr}{fd:FuncData}{ps:List Str}{k n:Nat}{g g':List D→Rs D}(F:FnOk P w K mg base CX k f fd ps (spD K n g))(h:∀ds d,ds.length=n→g' ds=.ok d→g ds=.ok d):FnOk P w K mg base CX k f fd ps (spD K n g'):=
 F.imp fun vs H Q E ⟨hl,ds,Fz,fh,tt,r,q⟩=>⟨hl,ds,Fz,fh,tt,r,by
  cases e:g' ds with
  |ok d=>rw[e] at q;rw[h ds d (by rw[r.length];exact hl) e];exact q
  |ex c=>rw[e] at q;exact q.elim
  |no=>rw[e] at q;exact q.elim⟩
end
section
variable{X:Cx}{pos:Pos}{e tg:Expr}{es:List Expr}{fe:FE}{fs:FA}
noncomputable def zr(g:List D→Rs D)(fs:FA):FE:=fun τ=>(fs τ).bind fun ds=>Qf (g ds)
theorem Gz{k n:Nat}{f:Addr}{fd:FuncData}{ps:List Str}{g:List D→Rs D}{x:Str}{p:Pos}(F:FnOk X.prog X.w X.K X.mg X.base CX0 k f fd ps (spD X.K n g))(hr:Room k X.A)(hg:Gl X x)(hm:X.mg x=some (.ref f))(hk:keepIn X.K (.ref f)=true)(hb:Binds X.K fd ps [])
  (ha:PDA X (e::es) fs) (hn:(e::es).length=n) (hfs:∀τ ds,fs τ=.ok ds→ds.length=(e::es).length) (hdb:(x==("__debug__" : Str))=false:=by decide) (he:starEach (e::es) X.env=(false,eval e X.env)::starEach es X.env:=by rfl) (hpl:(backTo pos (starEach es X.env)).any (·.1)=false:=by rfl) :
  PDE X (.Call (.Name x p) (e::es) [] pos) (zr g fs):=
 PE.imp (TB F hr hg hm hk hb .nil (E:=E0) Vh ha hdb he hpl) fun σ H Q z_=>by
  obtain⟨Fz,τ,R,h⟩:=z_
  have hb:=h.bind
  refine⟨Fz,τ,R,?_⟩
  cases q:fs τ with
  |no=>rw[q] at hb;exact hb
  |ex c=>rw[q] at hb;exact hb
  |ok ds=>
   rw[q] at hb
   intro vs F1 H1 x r
   rw[append_nil]
   refine⟨by rw[← r.length,hfs τ ds q,hn],ds,F1,x.fh,x.tt R.tt,r,?_⟩
   have hb:Ok X (Qf (g ds)) (Ev X.K Fz H Q):=hb
   cases z:g ds with
   |ok d=>rw[z] at hb;exact Ev.ext hb x
   |ex c=>rw[z] at hb;exact hb.elim
   |no=>rw[z] at hb;exact hb.elim
theorem zu(τ:DS)(ds:List D)(h:zj τ=.ok ds):ds.length=0:=by cases h;rfl
theorem zg{f:FE}{g:FA}{n:Nat}(hg:∀τ ds,g τ=.ok ds→ds.length=n)(τ:DS)(ds:List D)(h:za f g τ=.ok ds):ds.length=n+1:=by
 unfold za at h
 cases q:f τ with
 |no=>rw[q] at h;cases h
 |ex c=>rw[q] at h;cases h
 |ok d=>
  rw[q] at h
  cases q2:g τ with
  |no=>rw[q2] at h;cases h
  |ex c=>rw[q2] at h;cases h
  |ok r=>rw[q2] at h;cases h;simp[hg τ r q2]
noncomputable def JQ(X:Cx)(f:Value)(g:List D→Rs D):Prop:=∃r,CallR X f r∧∀F H vs ds Q,Same F H→Reps X.K F ds vs→Ok X (g ds) (Ev X.K F H Q)→r vs H Q
noncomputable def yZ(g:List D→Rs D)(fs:FA):FE:=fun τ=>(fs τ).bind g
theorem ya{id:String}{x:Str}{p:Pos}{g:List D→Rs D}(hc:JQ X (.builtin id) g)(hg:Gl X x)(hm:X.mg x=none)(hv:bootBuiltins x=some (.builtin id))(ha:PDA X (e::es) fs)(hn:x ≠ "__name__" := by decide)(hdb:(x==("__debug__" : Str))=false:=by decide)
  (he:starEach (e::es) X.env=(false,eval e X.env)::starEach es X.env:=by rfl) (hpl:(backTo pos (starEach es X.env)).any (·.1)=false:=by rfl):PDE X (.Call (.Name x p) (e::es) [] pos) (yZ g fs):=by
 obtain⟨r,h1,h2⟩:=hc
 exact PE.imp (L2.pe_callB h1 hg hm hv ha hn hdb he hpl) fun σ H Q z_=>by obtain⟨Fz,τ,R,h⟩:=z_;exact tAs.of R h.bind fun ds vs F1 H1 q x R1 rr=>h2 F1 H1 vs ds Q R1.fh rr (q.imp fun d e=>e.ext x)
noncomputable def IxD(X:Cx)(op:D→D→Rs D):Prop:=∃r:R2,IxR X r∧∀F H x y dx dy Q,Same F H→Rep X.K F dx x→Rep X.K F dy y→Ok X (op dx dy) (Ev X.K F H Q)→r x y H Q
theorem z9{a b:Expr}{fa fb:FE}{op:D→D→Rs D}(hr:IxD X op)(ha:PDE X a fa)(hb:PDE X b fb)(hs:WR b:=by intro _ _;rfl):PDE X (.Subscript a b pos) (eOp op fa fb):=by
 obtain⟨r,h1,h2⟩:=hr
 exact PE.imp (LU h1 ha hb hs) (Jg h2)
noncomputable def ixD:D→D→Rs D
 |.lst ds,.int k=>match atI ds k with
  |some d=>.ok d
  |none=>.no
 |.tup ds,.int k=>match atI ds k with
  |some d=>.ok d
  |none=>.no
 |.scr ns,.int k=>match atI ns k with
  |some d=>.ok (.int d)
  |none=>.no
 |.str x,.int k=>match atI x.cps.toList k with
  |some c=>if x.length≤sizeLine then .ok (.str ⟨#[c]⟩) else .no
  |none=>.no
 |_,_=>.no
theorem LH{α β:Type}{f:α→β}{xs:List α}{k:Int}{a:α}(h:atI xs k=some a):atI (xs.map f) k=some (f a):=by
 unfold atI at h ⊢
 rw[length_map]
 cases q:ixN xs.length k with
 |none=>rw[q] at h;cases h
 |some j=>
  rw[q] at h
  have h:xs[j]?=some a:=h
  show(xs.map f)[j]?=_
  rw[getElem?_map,h];rfl
theorem yC:IxD X ixD:=⟨_,zg3,fun F H x y dx dy Q fh r1 r2 h=>by
 cases dx with
 |lst ds=>
  cases dy with
  |int k=>
   simp only[Rep] at r1 r2;obtain⟨a,vs,rfl,q,t⟩:=r1;subst r2
   (delta ixD at h;dsimp only at h)
   cases z:atI ds k with
   |none=>rw[z] at h;exact h.elim
   |some d=>
    rw[z] at h
    obtain⟨v,z1,z2⟩:=Xa t z
    exact .inl ⟨a,vs,k,v,rfl,rfl,SqL.of (fh _ _ q),z1,h v F H (Ext.refl fh) z2⟩
  |_=>exact h.elim
 |tup ds=>
  cases dy with
  |int k=>
   simp only[Rep] at r1 r2;obtain⟨a,vs,rfl,q,t⟩:=r1;subst r2
   (delta ixD at h;dsimp only at h)
   cases z:atI ds k with
   |none=>rw[z] at h;exact h.elim
   |some d=>
    rw[z] at h
    obtain⟨v,z1,z2⟩:=Xa t z
    exact .inr (.inl ⟨a,vs,k,v,rfl,rfl,Same.seqT fh q,z1,h v F H (Ext.refl fh) z2⟩)
  |_=>exact h.elim
 |scr ns=>
  cases dy with
  |int k=>
   simp only[Rep] at r1 r2;obtain⟨a,rfl,q⟩:=r1;subst r2
   (delta ixD at h;dsimp only at h)
   cases z:atI ns k with
   |none=>rw[z] at h;exact h.elim
   |some d=>
    rw[z] at h
    exact .inl ⟨a,_,k,.int d,rfl,rfl,fh.seq q,LH z,h (.int d) F H (Ext.refl fh) (by simp only[Rep])⟩
  |_=>exact h.elim
 |str x=>
  cases dy with
  |int k=>
   simp only[Rep] at r1 r2;subst r1;subst r2
   (delta ixD at h;dsimp only at h)
   cases z:atI x.cps.toList k with
   |none=>rw[z] at h;exact h.elim
   |some c=>
    rw[z] at h
    obtain⟨z2,h⟩:=yL h
    exact .inr (.inr ⟨x,k,c,rfl,rfl,z2,z,h _ F H (Ext.refl fh) (by simp only[Rep])⟩)
  |_=>exact h.elim
 |_=>cases dy <;> exact h.elim⟩
end
mutual
noncomputable def xJ:D→PyData
 |.non=>.none
 |.bl b=>.bool b
 |.int i=>.int i
 |.str x=>.str x
 |.lst ds=>.list (toPys ds)
 |.tup ds=>.tuple (toPys ds)
 |.scr ns=>.list (ns.map .int)
 |.raw _=>.none
 |.exc _=>.none
 |.dct _ _=>.none
noncomputable def toPys:List D→List PyData
 |[]=>[]
 |d::r=>xJ d::toPys r
end
mutual
noncomputable def xQ:D→Bool
 |.lst ds=>plainDs ds
 |.tup ds=>plainDs ds
 |.raw _=>false
 |.exc _=>false
 |.dct _ _=>false
 |_=>true
noncomputable def plainDs:List D→Bool
 |[]=>true
 |d::r=>xQ d&&plainDs r
end
theorem readsAll_ints{h:Heap}:∀{ns:List Int} {us:List Value},Vals (ns.map V.int) us→ReadsAll h us (ns.map .int) []
 |[],_,.nil=>.nil
 |n::ns,_,.cons r t=>by
  obtain⟨tk,rfl⟩:=r
  exact .cons (as:=[]) (bs:=[]) (.int n tk) (readsAll_ints t)
section
variable{X:Cx}{pins:List (Addr×Obj)}{σ:St}{F H:Hp}{s:Shared}
mutual
theorem wm(I:Inv X pins σ H s)(fh:Same F H):∀(d:D) {v:V} {u:Value},Rep X.K F d v→RelV v u→xQ d=true→∃as,Reads s.heap u (xJ d) as
 |.non,v,u,r,rv,_=>by simp only[Rep] at r;subst r;cases rv;exact⟨[],.none⟩
 |.bl b,v,u,r,rv,_=>by simp only[Rep] at r;subst r;cases rv;exact⟨[],.bool b⟩
 |.int i,v,u,r,rv,_=>by simp only[Rep] at r;subst r;obtain⟨t,rfl⟩:=rv;exact⟨[],.int i t⟩
 |.str x,v,u,r,rv,_=>by simp only[Rep] at r;subst r;obtain⟨t,rfl⟩:=rv;exact⟨[],.str x t⟩
 |.lst ds,v,u,r,rv,hp=>by
  simp only[Rep] at r;obtain⟨a,vs,rfl,q,t⟩:=r
  cases rv
  obtain⟨its,rr,⟨o,n,e,c,_,dd⟩,_⟩:=I.list (SqL.of (K:=X.K) (fh _ _ q))
  obtain⟨as,ra⟩:=readss_of I fh ds t rr (by simpa only[xQ] using hp)
  exact⟨a::as,by rw[xJ];exact .list e c dd (by simpa using ra)⟩
 |.tup ds,v,u,r,rv,hp=>by
  simp only[Rep] at r;obtain⟨a,vs,rfl,q,t⟩:=r
  cases rv
  obtain⟨its,rr,⟨o,e,c,n,dd⟩,_⟩:=I.tuple (Same.seqT fh q)
  obtain⟨as,ra⟩:=readss_of I fh ds t rr (by simpa only[xQ] using hp)
  exact⟨as,by rw[xJ];exact .tuple e c dd (by simpa using ra)⟩
 |.scr ns,v,u,r,rv,hp=>by
  simp only[Rep] at r;obtain⟨a,rfl,q⟩:=r
  cases rv
  obtain⟨its,rr,⟨o,n,e,c,_,dd⟩,_⟩:=I.list (fh.seq q)
  exact⟨[a],by rw[xJ];exact .list e c dd (by simpa using readsAll_ints rr)⟩
 |.raw w,v,u,r,rv,hp=>by simp[xQ] at hp
 |.exc w,v,u,r,rv,hp=>by simp[xQ] at hp
 |.dct _ _,v,u,r,rv,hp=>by simp[xQ] at hp
theorem readss_of(I:Inv X pins σ H s)(fh:Same F H):∀(ds:List D) {vs:List V} {us:List Value},Reps X.K F ds vs→Vals vs us→plainDs ds=true→∃as,ReadsAll s.heap us (toPys ds) as
 |[],vs,us,r,rv,_=>by simp only[Reps] at r;subst r;cases rv;exact⟨[],by rw[toPys];exact .nil⟩
 |d::ds,vs,us,r,rv,hp=>by
  simp only[Reps] at r
  obtain⟨v,r',rfl,q,t⟩:=r
  simp only[plainDs,Bool.and_eq_true] at hp
  cases rv with
  |cons r1 r2=>
   obtain⟨as,h1⟩:=wm I fh d q r1 hp.1
   obtain⟨bs,h2⟩:=readss_of I fh ds t r2 hp.2
   exact⟨as++bs,by rw[toPys];exact .cons h1 h2⟩
end
end
noncomputable def okD(d:D):Bool:=xQ d&&(xJ d).canLay0&&decide ((xJ d).depth≤60)
theorem vw{d:D}(h:okD d=true):xQ d=true∧(xJ d).canLay0=true∧(xJ d).depth≤60:=by
 simpa[okD,and_assoc] using h
noncomputable def wT(d e:D):Bool:=PyData.eqv (xJ d) (xJ e)
noncomputable def eqD:D→D→Rs D
 |.str x,.str y=>.ok (.bl (x==y))
 |.int x,.int y=>.ok (.bl (x==y))
 |d,e=>if okD d=true∧okD e=true then .ok (.bl (wT d e)) else .no
noncomputable def neD:D→D→Rs D
 |.str x,.str y=>.ok (.bl (!(x==y)))
 |.int x,.int y=>.ok (.bl (!(x==y)))
 |d,e=>if okD d=true∧okD e=true then .ok (.bl (!wT d e)) else .no
section
variable{X:Cx}
noncomputable def U1(K:Frag)(b:D→D→Bool):R2:=fun x y H Q=>∃F d e,Same F H∧Rep K F d x∧Rep K F e y∧okD d=true∧okD e=true∧Q (.bl (b d e)) H
theorem Qd(hu:X.A.units+64<cLine):OpR X (compareOp .Eq) (U1 X.K wT):=by
 intro pins s σ H x y v u Q I rx ry h
 obtain⟨F,d,e,fh,r1,r2,o1,o2,q⟩:=h
 obtain⟨p1,c1,e1⟩:=vw o1
 obtain⟨p2,c2,e2⟩:=vw o2
 obtain⟨as,h1⟩:=wm I fh d r1 rx p1
 obtain⟨bs,h2⟩:=wm I fh e r2 ry p2
 exact SeqAt.compareEq_reads h1 h2 c1 c2 (by lia) ⟨.bl _,H,I,rfl,q⟩
theorem Qb(hu:X.A.units+64<cLine):OpR X (compareOp .NotEq) (U1 X.K fun d e=>!wT d e):=by
 intro pins s σ H x y v u Q I rx ry h
 obtain⟨F,d,e,fh,r1,r2,o1,o2,q⟩:=h
 obtain⟨p1,c1,e1⟩:=vw o1
 obtain⟨p2,c2,e2⟩:=vw o2
 obtain⟨as,h1⟩:=wm I fh d r1 rx p1
 obtain⟨bs,h2⟩:=wm I fh e r2 ry p2
 exact SeqAt.compareNe_reads h1 h2 c1 c2 (by lia) ⟨.bl _,H,I,rfl,q⟩
theorem wR(hu:X.A.units+64<cLine):OpD X (compareOp .Eq) eqD:=⟨_,op_eq.or (Qd hu),fun F H x y dx dy Q fh r1 r2 h=>by
 have gen:(Ok X (if okD dx=true∧okD dy=true then .ok (.bl (wT dx dy)) else .no) (Ev X.K F H Q))→rEq x y H Q∨U1 X.K wT x y H Q:=fun h=>by
  obtain⟨z,h⟩:=yL h
  exact .inr ⟨F,dx,dy,fh,r1,r2,z.1,z.2,h _ F H (Ext.refl fh) (by simp only[Rep])⟩
 cases dx with
 |str a=>
  cases dy with
  |str b=>
   simp only[Rep] at r1 r2;subst r1;subst r2
   exact .inl ⟨rfl,by rw[Yd];exact h _ F H (Ext.refl fh) (by simp only[Rep])⟩
  |_=>exact gen h
 |int a=>
  cases dy with
  |int b=>
   simp only[Rep] at r1 r2;subst r1;subst r2
   exact .inl ⟨rfl,by rw[Ye];exact h _ F H (Ext.refl fh) (by simp only[Rep])⟩
  |_=>exact gen h
 |_=>exact gen h⟩
theorem jt(hu:X.A.units+64<cLine):OpD X (compareOp .NotEq) neD:=⟨_,op_ne.or (Qb hu),fun F H x y dx dy Q fh r1 r2 h=>by
 have gen:(Ok X (if okD dx=true∧okD dy=true then .ok (.bl (!wT dx dy)) else .no) (Ev X.K F H Q))→rNe x y H Q∨U1 X.K (fun d e=>!wT d e) x y H Q:=fun h=>by
  obtain⟨z,h⟩:=yL h
  exact .inr ⟨F,dx,dy,fh,r1,r2,z.1,z.2,h _ F H (Ext.refl fh) (by simp only[Rep])⟩
 cases dx with
 |str a=>
  cases dy with
  |str b=>
   simp only[Rep] at r1 r2;subst r1;subst r2
   exact .inl ⟨rfl,by rw[Yd];exact h _ F H (Ext.refl fh) (by simp only[Rep])⟩
  |_=>exact gen h
 |int a=>
  cases dy with
  |int b=>
   simp only[Rep] at r1 r2;subst r1;subst r2
   exact .inl ⟨rfl,by rw[Ye];exact h _ F H (Ext.refl fh) (by simp only[Rep])⟩
  |_=>exact gen h
 |_=>exact gen h⟩
noncomputable def intOp(C:Int→Int→Bool)(g:Int→Int→D):D→D→Rs D
 |.int i,.int j=>if C i j=true then .ok (g i j) else .no
 |_,_=>.no
theorem Jf{f:Value→Value→Sem Value}{C':Int→Int→Prop}{C:Int→Int→Bool}{gv:Int→Int→V}{g:Int→Int→D}(h:OpR X f (rI C' gv))(hc:∀i j,C i j=true→C' i j)(hg:∀F i j,Rep X.K F (g i j) (gv i j)):OpD X f (intOp C g):=
 ⟨_,h,fun F H x y dx dy Q fh r1 r2 q=>by
  cases dx with
  |int i=>
   cases dy with
   |int j=>
    simp only[Rep] at r1 r2;subst r1;subst r2
    obtain⟨z,q⟩:=yL q
    exact⟨i,j,rfl,rfl,hc i j z,q _ F H (Ext.refl fh) (hg F i j)⟩
   |_=>exact q.elim
  |_=>cases dy <;> exact q.elim⟩
noncomputable def WG(g:Int→Int→D):D→D→Rs D
 |.int i,.int j=>.ok (g i j)
 |_,_=>.no
theorem Yz{f:Value→Value→Sem Value}{gv:Int→Int→V}{g:Int→Int→D}(h:OpR X f (rI0 gv))(hg:∀F i j,Rep X.K F (g i j) (gv i j)):OpD X f (WG g):=
 ⟨_,h,fun F H x y dx dy Q fh r1 r2 q=>by
  cases dx with
  |int i=>
   cases dy with
   |int j=>
    simp only[Rep] at r1 r2;subst r1;subst r2
    exact⟨i,j,rfl,rfl,q _ F H (Ext.refl fh) (hg F i j)⟩
   |_=>exact q.elim
  |_=>cases dy <;> exact q.elim⟩
noncomputable def jL:=WG fun i j=>.int (i-j)
theorem uZ:OpD X (binaryOp .Sub) jL:=Yz zd4 fun _ _ _=>by simp only[Rep]
noncomputable def WB:=intOp (fun _ j=>decide (0<j)) fun i j=>.int (i%j)
theorem u3:OpD X (binaryOp .Mod) WB:=Jf zd6 (fun i j h=>by simpa using h) fun _ _ _=>by simp only[Rep]
noncomputable def YZ:=intOp (fun _ j=>decide (0<j∧j<1073741824)) fun i j=>.int (i / j)
theorem jT:OpD X (binaryOp .FloorDiv) YZ:=Jf TR (fun i j h=>by have h':0<j∧j<1073741824:=of_decide_eq_true h;exact h') fun _ _ _=>by simp only[Rep]
noncomputable def ltI:=WG fun i j=>.bl (decide (i<j))
noncomputable def gtD:=WG fun i j=>.bl (decide (j<i))
theorem Ui:OpD X (compareOp .Lt) ltI:=Yz op_lt fun _ _ _=>by simp only[Rep]
theorem Uj:OpD X (compareOp .Gt) gtD:=Yz op_gt fun _ _ _=>by simp only[Rep]
noncomputable def zW:D→D→Rs D
 |.int i,.int j=>.ok (.int (i+j))
 |.str i,.str j=>if i.length+j.length≤sizeLine then .ok (.str (i++j)) else .no
 |.lst i,.lst j=>if i.length+j.length≤sizeLine then .ok (.lst (i++j)) else .no
 |_,_=>.no
theorem zN:OpD X (binaryOp .Add) zW:=⟨_,op_add.or (op_add_str.or zd8),fun F H x y dx dy Q fh r1 r2 q=>by
 cases dx with
 |int i=>
  cases dy with
  |int j=>
   simp only[Rep] at r1 r2;subst r1;subst r2
   exact .inl ⟨i,j,rfl,rfl,q _ F H (Ext.refl fh) (by simp only[Rep])⟩
  |_=>exact q.elim
 |str i=>
  cases dy with
  |str j=>
   simp only[Rep] at r1 r2;subst r1;subst r2
   obtain⟨z,q⟩:=yL q
   exact .inr (.inl ⟨i,j,rfl,rfl,z,q _ F H (Ext.refl fh) (by simp only[Rep])⟩)
  |_=>exact q.elim
 |lst i=>
  cases dy with
  |lst j=>
   simp only[Rep] at r1 r2
   obtain⟨a,vs,rfl,e1,t1⟩:=r1
   obtain⟨b,ws,rfl,e2,t2⟩:=r2
   obtain⟨z,q⟩:=yL q
   refine .inr (.inr ⟨a,b,vs,ws,rfl,rfl,fh _ _ e1,fh _ _ e2,by rw[← t1.length,← t2.length];exact z,fun p hp=>q _ _ _ (Ext.new fh hp) ?_⟩)
   simp only[Rep]
   exact⟨p,vs++ws,rfl,zn,(t1.append t2).mono (z7 (zH fh hp))⟩
  |_=>exact q.elim
 |_=>cases dy <;> exact q.elim⟩
noncomputable def uF:D→D→Rs D
 |.int i,.int j=>if (-(18446744073709551616)<i∧i<18446744073709551616)∨(-(18446744073709551616)<j∧j<18446744073709551616) then .ok (.int (i*j)) else .no
 |.lst i,.int k=>if k<16777216∧-16777216<k∧i.length*k.toNat≤sizeLine then .ok (.lst (List.replicate k.toNat i).flatten) else .no
 |_,_=>.no
theorem wF:OpD X (binaryOp .Mult) uF:=⟨_,op_mul.or zd5,fun F H x y dx dy Q fh r1 r2 q=>by
 cases dx with
 |int i=>
  cases dy with
  |int j=>
   simp only[Rep] at r1 r2;subst r1;subst r2
   obtain⟨z,q⟩:=yL q
   refine .inl ⟨i,j,rfl,rfl,?_,q _ F H (Ext.refl fh) (by simp only[Rep])⟩
   unfold CMul
   rcases z with z|z
   ·exact .inl (by lia)
   ·exact .inr (by lia)
  |_=>exact q.elim
 |lst i=>
  cases dy with
  |int k=>
   simp only[Rep] at r1 r2
   obtain⟨a,vs,rfl,e1,t1⟩:=r1
   subst r2
   obtain⟨z,q⟩:=yL q
   refine .inr ⟨a,k,vs,rfl,rfl,fh _ _ e1,by lia,by lia,by rw[← t1.length];exact z.2.2,fun p hp=>q _ _ _ (Ext.new fh hp) ?_⟩
   simp only[Rep]
   exact⟨p,_,rfl,zn,(t1.rep k.toNat).mono (z7 (zH fh hp))⟩
  |_=>exact q.elim
 |_=>cases dy <;> exact q.elim⟩
noncomputable def WX(i j:Str):Bool:=!(Builtin.Str.occurrences j i 0 j.length 1).isEmpty
noncomputable def inD:D→D→Rs D
 |.str i,.str j=>.ok (.bl (WX i j))
 |d,.lst xs=>if okD d=true∧okD (.lst xs)=true then .ok (.bl (xs.any fun y=>wT y d)) else .no
 |d,.tup xs=>if okD d=true∧okD (.tup xs)=true then .ok (.bl (xs.any fun y=>wT y d)) else .no
 |_,_=>.no
noncomputable def ze9(r:D):Rs D:=match r with
 |.bl b=>.ok (.bl (!b))
 |_=>.no
noncomputable def x9(d e:D):Rs D:=(inD d e).bind ze9
theorem XB:∀xs:List D,toPys xs=xs.map xJ:=by
 intro l_
 induction l_ with
 |nil=>
  exact rfl
 |cons d r ih_=>
  rw[toPys,ih_,map_cons]
theorem u9(xs:List D)(d:D):((toPys xs).any fun y=>PyData.eqv y (xJ d))=xs.any fun y=>wT y d:=by
 rw[XB,List.any_map];rfl
noncomputable def rInD(K:Frag)(neg:Bool):R2:=fun x y H Q=>∃F d e xs,Same F H∧Rep K F d x∧Rep K F e y∧okD d=true∧okD e=true∧(e=.lst xs∨e=.tup xs)∧Q (.bl (if neg then !(xs.any fun y=>wT y d) else xs.any fun y=>wT y d)) H
theorem Qc(hu:X.A.units+128<cLine):OpR X (compareOp .In) (rInD X.K false):=by
 intro pins s σ H x y v u Q I rx ry h
 obtain⟨F,d,e,xs,fh,r1,r2,o1,o2,he,q⟩:=h
 obtain⟨p1,c1,e1⟩:=vw o1
 obtain⟨p2,c2,e2⟩:=vw o2
 obtain⟨as,h1⟩:=wm I fh d r1 rx p1
 obtain⟨bs,h2⟩:=wm I fh e r2 ry p2
 rcases he with rfl|rfl
 ·rw[xJ] at h2 c2 e2
  refine SeqAt.in_list_reads h2 h1 (by simpa only[PyData.canLay0] using c2) c1 (by lia) ⟨.bl _,H,I,rfl,?_⟩
  rw[u9];exact q
 ·rw[xJ] at h2 c2 e2
  refine SeqAt.in_tuple_reads h2 h1 (by simpa only[PyData.canLay0] using c2) c1 (by lia) ⟨.bl _,H,I,rfl,?_⟩
  rw[u9];exact q
theorem Wv(hu:X.A.units+128<cLine):OpR X (compareOp .NotIn) (rInD X.K true):=by
 intro pins s σ H x y v u Q I rx ry h
 obtain⟨F,d,e,xs,fh,r1,r2,o1,o2,he,q⟩:=h
 obtain⟨p1,c1,e1⟩:=vw o1
 obtain⟨p2,c2,e2⟩:=vw o2
 obtain⟨as,h1⟩:=wm I fh d r1 rx p1
 obtain⟨bs,h2⟩:=wm I fh e r2 ry p2
 rcases he with rfl|rfl
 ·rw[xJ] at h2 c2 e2
  refine SeqAt.notIn_list_reads h2 h1 (by simpa only[PyData.canLay0] using c2) c1 (by lia) ⟨.bl _,H,I,rfl,?_⟩
  rw[u9];exact q
 ·rw[xJ] at h2 c2 e2
  refine SeqAt.notIn_tuple_reads h2 h1 (by simpa only[PyData.canLay0] using c2) c1 (by lia) ⟨.bl _,H,I,rfl,?_⟩
  rw[u9];exact q
theorem Zo(hu:X.A.units+128<cLine):OpD X (compareOp .In) inD:=⟨_,op_in_str.or (Qc hu),fun F H x y dx dy Q fh r1 r2 q=>by
 cases dy with
 |lst xs=>
  have q':Ok X (if okD dx=true∧okD (.lst xs)=true then .ok (.bl (xs.any fun y=>wT y dx)) else .no) (Ev X.K F H Q):=by cases dx <;> exact q
  obtain⟨z,q⟩:=yL q'
  exact .inr ⟨F,dx,_,xs,fh,r1,r2,z.1,z.2,.inl rfl,q _ F H (Ext.refl fh) (by simp only[Rep];rfl)⟩
 |tup xs=>
  have q':Ok X (if okD dx=true∧okD (.tup xs)=true then .ok (.bl (xs.any fun y=>wT y dx)) else .no) (Ev X.K F H Q):=by cases dx <;> exact q
  obtain⟨z,q⟩:=yL q'
  exact .inr ⟨F,dx,_,xs,fh,r1,r2,z.1,z.2,.inr rfl,q _ F H (Ext.refl fh) (by simp only[Rep];rfl)⟩
 |str j=>
  cases dx with
  |str i=>
   simp only[Rep] at r1 r2;subst r1;subst r2
   exact .inl ⟨i,j,rfl,rfl,q _ F H (Ext.refl fh) (by simp only[Rep,WX])⟩
  |_=>exact q.elim
 |_=>cases dx <;> exact q.elim⟩
theorem u0(hu:X.A.units+128<cLine):OpD X (compareOp .NotIn) x9:=⟨_,op_notin_str.or (Wv hu),fun F H x y dx dy Q fh r1 r2 q=>by
 have q:=Ok.bind q
 cases dy with
 |lst xs=>
  have q':Ok X (if okD dx=true∧okD (.lst xs)=true then .ok (.bl (xs.any fun y=>wT y dx)) else .no) (fun r=>Ok X (ze9 r) (Ev X.K F H Q)):=by cases dx <;> exact q
  obtain⟨z,q⟩:=yL q'
  exact .inr ⟨F,dx,_,xs,fh,r1,r2,z.1,z.2,.inl rfl,q _ F H (Ext.refl fh) (by simp only[Rep];rfl)⟩
 |tup xs=>
  have q':Ok X (if okD dx=true∧okD (.tup xs)=true then .ok (.bl (xs.any fun y=>wT y dx)) else .no) (fun r=>Ok X (ze9 r) (Ev X.K F H Q)):=by cases dx <;> exact q
  obtain⟨z,q⟩:=yL q'
  exact .inr ⟨F,dx,_,xs,fh,r1,r2,z.1,z.2,.inr rfl,q _ F H (Ext.refl fh) (by simp only[Rep];rfl)⟩
 |str j=>
  cases dx with
  |str i=>
   simp only[Rep] at r1 r2;subst r1;subst r2
   exact .inl ⟨i,j,rfl,rfl,q _ F H (Ext.refl fh) (by simp only[Rep,WX])⟩
  |_=>exact q.elim
 |_=>cases dx <;> exact q.elim⟩
noncomputable def isN:D→Rs Bool
 |.non=>.ok true
 |.raw _=>.no
 |.exc _=>.no
 |.dct _ _=>.no
 |_=>.ok false
noncomputable def isD(d e:D):Rs D:=match e with
 |.non=>(isN d).bind fun b=>.ok (.bl b)
 |_=>.no
noncomputable def ub(d e:D):Rs D:=match e with
 |.non=>(isN d).bind fun b=>.ok (.bl (!b))
 |_=>.no
theorem Jy{F:Hp}{d:D}{v:V}{P:Bool→Prop}(r:Rep X.K F d v)(h:Ok X (isN d) P):P (decide (v=.non)):=by
 cases d with
 |non=>simp only[Rep] at r;subst r;exact h
 |bl b=>simp only[Rep] at r;subst r;exact h
 |int b=>simp only[Rep] at r;subst r;exact h
 |str b=>simp only[Rep] at r;subst r;exact h
 |lst b=>simp only[Rep] at r;obtain⟨a,vs,rfl,_⟩:=r;exact h
 |tup b=>simp only[Rep] at r;obtain⟨a,vs,rfl,_⟩:=r;exact h
 |scr b=>simp only[Rep] at r;obtain⟨a,rfl,_⟩:=r;exact h
 |raw b=>exact h.elim
 |exc b=>exact h.elim
 |dct _ _=>exact h.elim
theorem zd3:OpD X (compareOp .Is) isD:=⟨_,zd7,fun F H x y dx dy Q fh r1 r2 q=>by
 cases dy with
 |non=>simp only[Rep] at r2;exact⟨r2,Jy r1 (Ok.bind q) _ F H (Ext.refl fh) (by simp only[Rep])⟩
 |_=>exact q.elim⟩
theorem XN:OpD X (compareOp .IsNot) ub:=⟨_,TQ,fun F H x y dx dy Q fh r1 r2 q=>by
 cases dy with
 |non=>simp only[Rep] at r2;have q':Ok X ((isN dx).bind fun b=>Rs.ok (D.bl (!b))) (Ev X.K F H Q):=q;have q2:=Jy (P:=fun b=>Ok X (Rs.ok (D.bl (!b))) (Ev X.K F H Q)) r1 (Ok.bind q');exact⟨r2,q2 _ F H (Ext.refl fh) (by simp only[Rep])⟩
 |_=>exact q.elim⟩
noncomputable def wP(fa:FE):FE:=fun τ=>(fa τ).bind fun d=>match d with
 |.int i=>.ok (.int (-i))
 |_=>.no
theorem vp{a:Expr}{pos:Pos}{fa:FE}(ha:PDE X a fa):PDE X (.UnaryOp .USub a pos) (wP fa):=
 PE.imp (pe_un za1 ha) fun σ H Q z_=>by
  obtain⟨F,τ,R,h⟩:=z_
  refine tE.of R h.bind fun d v F1 H1 g x R1 r=>?_
  cases d with
  |int i=>simp only[Rep] at r;exact⟨i,r,g _ F1 H1 x (by simp only[Rep])⟩
  |_=>exact g.elim
end
noncomputable def yN(env:Env)(cs:List (Str×Addr))(y:Str×NameKind):List (Str×Addr):=if y.2==NameKind.free then (y.1,(env.cells.lookup y.1).getD 0)::cs else cs
noncomputable def xW(scope:Scope)(env:Env):List (Str×Addr):=scope.names.foldl (yN env) []
theorem vK{scope:Scope}{env:Env}(h:∀y∈scope.names,y.2=.free→(env.cells.lookup y.1).isSome=true):closureFor scope env=pure (xW scope env):=by
 unfold closureFor xW
 generalize scope.names=names at h
 have gen:∀(cs:List (Str×Addr)),(forIn names cs fun x r=>(do
   if (x.2==NameKind.free)=true then do
    let c ← cellOf env x.1
    pure PUnit.unit
    pure (ForInStep.yield ((x.1,c)::r))
   else do
    pure PUnit.unit
    pure (ForInStep.yield r)):Sem (List (Str×Addr)))=pure (names.foldl (yN env) cs):=by
  induction names with
  |nil=>intro cs;rfl
  |cons y r ih=>
   intro cs
   rw[List.forIn_cons,foldl_cons]
   by_cases hk:y.2=.free
   ·obtain⟨c,hc⟩:=Option.isSome_iff_exists.mp (h y mem_cons_self hk)
    have e:yN env cs y=(y.1,c)::cs:=by simp[yN,hk,hc]
    rw[e,← ih (fun z hz=>h z (mem_cons_of_mem _ hz))]
    simp only[hk,beq_self_eq_true,if_true,cellOf,hc]
    rfl
   ·have hb:(y.2==NameKind.free)=false:=by simpa using hk
    have e:yN env cs y=cs:=by simp[yN,hb]
    rw[e,← ih (fun z hz=>h z (mem_cons_of_mem _ hz))]
    simp only[hb,Bool.false_eq_true,if_false]
    rfl
 show((forIn names ([]:List (Str×Addr)) fun x r=>(do
   if (x.2==NameKind.free)=true then do
    let c ← cellOf env x.1
    pure PUnit.unit
    pure (ForInStep.yield ((x.1,c)::r))
   else do
    pure PUnit.unit
    pure (ForInStep.yield r)):Sem (List (Str×Addr))) >>= fun s=>pure s)=_
 rw[gen []]
 rfl
theorem ZO{env:Env}{x:Str}:∀{names:List (Str×NameKind)} {cs:List (Str×Addr)} {c:Addr},(names.foldl (yN env) cs).lookup x=some c→cs.lookup x=some c∨(∃y∈names,y.1=x∧y.2=.free∧c=(env.cells.lookup x).getD 0)
 |[],cs,c,h=>.inl h
 |y::r,cs,c,h=>by
  rw[foldl_cons] at h
  rcases ZO h with q|⟨z,hz,e⟩
  ·by_cases hk:y.2=.free
   ·have e:yN env cs y=(y.1,(env.cells.lookup y.1).getD 0)::cs:=by simp[yN,hk]
    rw[e,lookup_cons] at q
    by_cases hx:x=y.1
    ·subst hx
     simp at q
     exact .inr ⟨y,mem_cons_self,rfl,hk,q.symm⟩
    ·have hb:(x==y.1)=false:=by simpa using hx
     rw[hb] at q
     exact .inl q
   ·have hb:(y.2==NameKind.free)=false:=by simpa using hk
    have e:yN env cs y=cs:=by simp[yN,hb]
    rw[e] at q
    exact .inl q
  ·exact .inr ⟨z,mem_cons_of_mem _ hz,e⟩
theorem uO{env:Env}{x:Str}:∀{names:List (Str×NameKind)} {cs:List (Str×Addr)},((∃y∈names,y.1=x∧y.2=.free)∨∃c,cs.lookup x=some c)→∃c,(names.foldl (yN env) cs).lookup x=some c
 |[],cs,h=>by
  rcases h with ⟨y,hy,_⟩|h
  ·cases hy
  ·exact h
 |y::r,cs,h=>by
  rw[foldl_cons]
  refine uO ?_
  by_cases hk:y.2=.free
  ·have e:yN env cs y=(y.1,(env.cells.lookup y.1).getD 0)::cs:=by simp[yN,hk]
   rw[e]
   by_cases hx:x=y.1
   ·subst hx;exact .inr ⟨(env.cells.lookup y.1).getD 0,by rw[lookup_cons];simp⟩
   ·have hb:(x==y.1)=false:=by simpa using hx
    rcases h with ⟨z,hz,e1,e2⟩|⟨c,hc⟩
    ·rcases mem_cons.mp hz with rfl|hz
     ·exact absurd e1.symm hx
     ·exact .inl ⟨z,hz,e1,e2⟩
    ·exact .inr ⟨c,by rw[lookup_cons,hb];exact hc⟩
  ·have hb:(y.2==NameKind.free)=false:=by simpa using hk
   have e:yN env cs y=cs:=by simp[yN,hb]
   rw[e]
   rcases h with ⟨z,hz,e1,e2⟩|h
   ·rcases mem_cons.mp hz with rfl|hz
    ·exact absurd e2 hk
    ·exact .inl ⟨z,hz,e1,e2⟩
   ·exact .inr h
noncomputable def _root_.L2.Cx.comp(X:Cx)(scope:Scope)(N:List Str)(s:Shared)(H:Hp)(C:Addr)(fp:List Addr):Cx:=
 { prog:=X.prog,w:=X.w,K:=X.K,mg:=X.mg,base:=X.base,A:=X.A,N:=N,s₀:=s,H₀:=H,env:=compEnvC scope (xW scope X.env) C X.env,outer:=X.stack,stack:=X.stack,ex:=fp,fn:=fun _=>false,calm:=X.calm,pn:=[],xe:=fun _ _=>False }
structure xF(X:Cx)(scope:Scope):Prop where
 kind:scope.kind=.function
 nocell:∀y∈scope.names,y.2≠.cell
 locs:∀y∈scope.names,y.2=.local→scope.names.lookup y.1=some .local
 free:∀y∈scope.names,y.2=.free→X.env.kindOf y.1=some .cell∨X.env.kindOf y.1=some .free
theorem wW{env:Env}:∀{names:List (Str×NameKind)} {x:Str},((names.map fun (n,k)=>if (k==NameKind.free&&env.scope.kind == .function&&env.kindOf n==some .cell) then (n,NameKind.cell) else (n,k)).lookup x=some .cell ∨
  (names.map fun (n,k)=>if (k==NameKind.free&&env.scope.kind == .function&&env.kindOf n==some .cell) then (n,NameKind.cell) else (n,k)).lookup x=some .free)→(∀y∈names,y.2≠.cell)→∃y∈names,y.1=x∧y.2=.free
 |[],_,h,_=>by rcases h with h|h <;> simp at h
 | (n,k)::r,x,h,hc=>by
  have hr:∀y∈r,y.2≠.cell:=fun y hy=>hc y (mem_cons_of_mem _ hy)
  rw[map_cons] at h
  by_cases hx:x=n
  ·subst hx
   by_cases hk:k=.free
   ·exact⟨_,mem_cons_self,rfl,hk⟩
   ·have hb:(k==NameKind.free)=false:=by simpa using hk
    have hck:k≠.cell:=hc (x,k) mem_cons_self
    simp only[hb,Bool.false_and,Bool.false_eq_true,if_false,lookup_cons,beq_self_eq_true] at h
    rcases h with h|h
    ·exact absurd (Option.some.inj h) hck
    ·exact absurd (Option.some.inj h) hk
  ·have hb:(x==n)=false:=by simpa using hx
   have step:∀q:Str×NameKind,q.1=n→((q::(r.map fun (n,k)=>if (k==NameKind.free&&env.scope.kind == .function&&env.kindOf n==some .cell) then (n,NameKind.cell) else (n,k))).lookup x)=((r.map fun (n,k)=>if (k==NameKind.free&&env.scope.kind == .function&&env.kindOf n==some .cell) then (n,NameKind.cell) else (n,k)).lookup x):=fun q hq=>by
    obtain⟨q1,q2⟩:=q
    simp only at hq
    subst hq
    rw[lookup_cons,hb]
   have h':((r.map fun (n,k)=>if (k==NameKind.free&&env.scope.kind == .function&&env.kindOf n==some .cell) then (n,NameKind.cell) else (n,k)).lookup x=some .cell∨(r.map fun (n,k)=>if (k==NameKind.free&&env.scope.kind == .function&&env.kindOf n==some .cell) then (n,NameKind.cell) else (n,k)).lookup x=some .free):=by
    rcases h with h|h
    ·left;exact(step _ (by show(if (k==NameKind.free&&env.scope.kind == .function&&env.kindOf n==some .cell)=true then (n,NameKind.cell) else (n,k)).1=n;split <;> rfl)).symm.trans h
    ·right;exact(step _ (by show(if (k==NameKind.free&&env.scope.kind == .function&&env.kindOf n==some .cell)=true then (n,NameKind.cell) else (n,k)).1=n;split <;> rfl)).symm.trans h
   obtain⟨y,hy,e⟩:=wW h' hr
   exact⟨y,mem_cons_of_mem _ hy,e⟩
theorem vZ{env:Env}:∀{names:List (Str×NameKind)} {x:Str},names.lookup x=some .free→¬ (names.map fun (n,k)=>if (k==NameKind.free&&env.scope.kind == .function&&env.kindOf n==some .cell) then (n,NameKind.cell) else (n,k)).lookup x=some .local
 |[],_,h=>by simp at h
 | (n,k)::r,x,h=>by
  rw[map_cons]
  show ¬ List.lookup x ((if (k==NameKind.free&&env.scope.kind == .function&&env.kindOf n==some .cell)=true then (n,NameKind.cell) else (n,k))::_)=_
  rw[lookup_cons] at h
  by_cases hx:x=n
  ·subst hx
   simp only[beq_self_eq_true] at h
   have hk:k=.free:=Option.some.inj h
   subst hk
   split <;> simp[lookup_cons]
  ·have hb:(x==n)=false:=by simpa using hx
   rw[hb] at h
   split
   ·rw[lookup_cons,hb];exact vZ h
   ·rw[lookup_cons,hb];exact vZ h
section
variable{X:Cx}{scope:Scope}{N':List Str}
theorem ZA(S:xF X scope)(ok:X.Ok){x:Str}{c:Addr}(h:(xW scope X.env).lookup x=some c):X.env.cells.lookup x=some c:=by
 rcases ZO h with q|⟨y,hy,e1,e2,e3⟩
 ·simp at q
 ·subst e1
  obtain⟨c',hc'⟩:=ok.has y.1 (S.free y hy e2)
  rw[hc'] at e3 ⊢
  rw[e3];rfl
theorem MH{pins:List (Addr×Obj)}{σ σ':St}{H:Hp}{s:Shared}{h1:Heap}{fp:List Addr}{t:Nat}(S:xF X scope)(I:Inv X pins σ H s)(hfp:∀b∈fp,Xw X pins H b)(hlt:∀b∈fp,b<s.heap.objs.size)
  (hn:h1.Ns s.heap.objs.size fun _=>none) (hsb:∀b o,s.heap.get? b=some o→h1.get? b=some o) (hl:σ'.length=N'.length)
  (hσ:∀(i:Nat) (v:V),σ'[i]?=some (some v)→∃(x:Str) (j:Nat),N'[i]?=some x∧X.N[j]?=some x∧σ[j]?=some (some v)∧scope.names.lookup x=some .free) :
  Inv (X.comp scope N' s H s.heap.objs.size fp) [] σ' H { s with heap:=h1,toks:=t }:=by
 have hH:H s.heap.objs.size=none:=I.hok.fresh (le_refl _)
 have cl:∀{x c},(xW scope X.env).lookup x=some c→X.env.cells.lookup x=some c:=fun h=>ZA S I.ok h
 have kept:∀{c v},s.heap.IsCell c v→h1.IsCell c v:=fun ⟨o,e,d⟩=>⟨o,hsb _ o e,d⟩
 refine⟨⟨I.ok.mod,S.kind,I.ok.glob,I.ok.blt,le_refl _,fun x y c e1 e2=>I.ok.inj x y c (cl e1) (cl e2),fun x hx=>?_,fun x c hf _=>absurd hf (by simp[Cx.comp]),I.ok.hd,I.ok.frames,.inl rfl,fun b hb=>?_,I.bs,le_trans I.ok.bsz I.sz,fun b o e hb=>?_,fun b hb hs=>?_,I.stack,I.stkFree⟩,
  I.os.symm ▸ rfl,I.bare,Un.kept hsb,⟨_,hn,fun i x v e1 e2 e3=>?_⟩,fun x c e=>?_,hH,fun x c e=>I.freeC x c (cl e),fun p hp=>absurd (show p∈([]:List (Addr×Obj)) from hp) (by simp),I.hok.kept hsb,hl⟩
 ·have hx:(relabel scope X.env).names.lookup x=some .cell∨(relabel scope X.env).names.lookup x=some .free:=hx
  exact uO (.inl (wW hx S.nocell))
 ·have hb:b∈fp:=hb
  refine⟨ne_of_lt (hlt b hb),fun x c e=>(hfp b hb).2.2.2.2.1 x c (cl e)⟩
 ·have hb:b∈fp:=hb
  rcases (hfp b hb).2.2.2.1 with z|z
  ·exact I.ok.noex b o e z
  ·exact absurd (lt_of_lt_of_le (Heap.lt_size e) (le_trans I.ok.bsz z)) (lt_irrefl _)
 ·have hb:b∈fp:=hb
  obtain⟨_,f1,f2,_⟩:=hfp b hb
  rcases mem_cons.mp (I.stkSub b hs) with z|z
  ·exact f1 z
  ·exact f2 z
 ·obtain⟨x',j,e4,e5,e6,e9⟩:=hσ i v e2
  have hy:=PySem.mem_of_lookup e9
  have e1':N'[i]?=some x:=e1
  rw[e1'] at e4;cases e4
  have kd:=S.free _ hy rfl
  obtain⟨m,hm,hl⟩:=I.loc
  obtain⟨u,ru,lk⟩:=hl j x v e5 e6 (kd.elim (fun z=>.inr (.inl z)) fun z=>.inr (.inr z))
  refine⟨u,ru,?_⟩
  rcases lk with ⟨z,_⟩|⟨z,c,hc,hcell⟩
  ·rcases kd with k|k <;> rw[k] at z <;> cases z
  ·obtain⟨c',hc'⟩:=uO (env:=X.env) (names:=scope.names) (cs:=[]) (x:=x) (.inl ⟨_,hy,rfl,rfl⟩)
   have:=cl hc'
   rw[hc] at this;cases this
   have e3':(relabel scope X.env).names.lookup x=some .local∨(relabel scope X.env).names.lookup x=some .cell∨(relabel scope X.env).names.lookup x=some .free:=e3
   rcases e3' with q|q|q
   ·exact absurd q (vZ e9)
   ·exact .inr ⟨.inl q,c,hc',kept hcell⟩
   ·exact .inr ⟨.inr q,c,hc',kept hcell⟩
 ·obtain⟨v,z⟩:=I.cell x c (cl e)
  exact⟨v,kept z⟩
end
theorem QE{prog:Program}{w:World}{A:Around}{R:Result→Shared→Prop}{s:Shared}{elt target iter:Expr}{ifs:List Expr}{scope:Scope}{pos:Pos}{it acc:Value}{env:Env}(I:Nat→Shared→Prop)
  (turn:∀n s,I n s→wpAny (model prog w) A (pyNext it) (fun r s₁=>match r with
   |none=>R (.ok .next) s₁
   |some v=>wpAny (model prog w) A (letOwnedTupleGo target it v) (fun _ s0=>wpAny (model prog w) A (assign target env v) (fun _ s₂=>
     wpAny (model prog w) A (forIn ifs true fun c r=>if r=true then do let ok ← isTrue c env (eval c env);pure (ForInStep.yield ok) else pure (ForInStep.yield r)) (fun ok s₃=>
      if ok=true then wpAny (model prog w) A (eval elt env) (fun x s₄=>
       wpAny (model prog w) A (call (.builtin "list.append") [acc,x]) (fun _ s₅=>∃m,m<n∧I m s₅) (fun _ _=>False) s₄) (fun _ _=>False) s₃
      else ∃m,m<n∧I m s₃) (fun _ _=>False) s₂) (fun _ _=>False) s0) (fun _ _=>False) s₁) (fun _ _=>False) s)
  (n:Nat) (h:I n s) :
  codeAny (model prog w) A (.compLoop (.ListComp elt [⟨target,iter,ifs,0⟩] scope pos) 0 it acc env) R s:=by
 refine codeAny_loop rfl I (fun n s hI=>?_) n h
 show wpAny _ A ((compTurn (.ListComp elt [⟨target,iter,ifs,0⟩] scope pos) 0 it acc env).onRaise (fun x=>do noteFrame x env;theTreesLotGoes x)) _ _ s
 refine wpAny_noted ?_
 rw[compTurn_list]
 refine wpAny_bind (wpAny_standAt (wpAny_bind (wpAny_mono (turn n s hI) (fun r s₁ h₁=>?_) fun _ _ h'=>h'.elim)))
 cases r with
 |none=>exact wpAny_pure h₁
 |some v=>
  refine wpAny_bind (wpAny_mono h₁ (fun _ s0 h0=>?_) fun _ _ h'=>h'.elim)
  refine wpAny_bind (wpAny_mono h0 (fun _ s₂ h₂=>wpAny_bind (wpAny_mono h₂ (fun ok s₃ h₃=>?_) fun _ _ h'=>h'.elim)) fun _ _ h'=>h'.elim)
  cases ok with
  |false=>exact wpAny_pure ⟨rfl,h₃⟩
  |true=>
   exact wpAny_bind (wpAny_bind (wpAny_mono h₃ (fun x s₄ h₄=>wpAny_bind (wpAny_mono h₄ (fun _ s₅ h₅=>wpAny_pure (wpAny_pure ⟨rfl,h₅⟩)) fun _ _ h'=>h'.elim)) fun _ _ h'=>h'.elim))
theorem GP{M:Model}{A:Around}{env:Env}{Q:Bool→Shared→Prop}{E:Value→Shared→Prop}{s:Shared}(h:Q true s) :
  wpAny M A (forIn ([]:List Expr) true fun c r=>if r=true then do let ok ← isTrue c env (eval c env);pure (ForInStep.yield ok) else pure (ForInStep.yield r)) Q E s:=wpAny_pure h
theorem GD{M:Model}{A:Around}{env:Env}{Q:Bool→Shared→Prop}{E:Value→Shared→Prop}{s:Shared}{c:Expr}(h:wpAny M A (isTrue c env (eval c env)) Q E s) :
  wpAny M A (forIn [c] true fun c r=>if r=true then do let ok ← isTrue c env (eval c env);pure (ForInStep.yield ok) else pure (ForInStep.yield r)) Q E s:=by
 rw[List.forIn_cons]
 simp only[if_true]
 refine wpAny_bind (wpAny_bind (wpAny_mono h (fun b s' q=>wpAny_pure ?_) fun _ _ e=>e))
 exact wpAny_pure q
noncomputable def PTs(Y:Cx)(ifs:List Expr)(t:TT):Prop:=∀(pins:List (Addr×Obj)) (s:Shared) (σ:St) (H:Hp) (Q:Bool→Hp→Prop),Inv Y pins σ H s→t σ H Q →
 wpAny (model Y.prog Y.w) Y.A (forIn ifs true fun c r=>if r=true then do let ok ← isTrue c Y.env (eval c Y.env);pure (ForInStep.yield ok) else pure (ForInStep.yield r)) (TP Y pins σ Q) Y.xe s
theorem To{Y:Cx}:PTs Y [] (fun _ H Q=>Q true H):=fun pins s σ H Q I h=>GP ⟨H,I,h⟩
theorem Tn{Y:Cx}{c:Expr}{t:TT}(h:PT Y c t):PTs Y [c] t:=fun pins s σ H Q I q=>GD (h pins s σ H Q I q)
noncomputable def UN(s0:St→St)(wi:TI)(g:TG)(ti:TT)(te:TE):TE:=fun σ H Q=>wi σ H fun J H1=>∀acc,H1 acc=none→∃W:Nat→Nat→St→Hp→Prop,(∃m,W 0 m (s0 σ) (upd H1 acc (.lst [])))∧∀i m σ1 H,W i m σ1 H →
 (J.stop i H∧Q (.ref acc) H)∨(J.go i H∧∀x H',J.yld i H x H'→g x σ1 H' fun σ2 H2=>ti σ2 H2 fun b H3=>
  if b=true then te σ2 H3 fun y H4=>∃ys,H4 acc=some (.lst ys)∧ys.length<sizeLine∧∃m',m'<m∧W (i+1) m' σ2 (upd H4 acc (.lst (ys++[y]))) else ∃m',m'<m∧W (i+1) m' σ2 H3)
section
variable{X:Cx}{scope:Scope}{N':List Str}{tg iter elt:Expr}{ifs:List Expr}{pos:Pos}{wi:TI}{g:TG}{ti:TT}{te:TE}{s0:St→St}
theorem Ln{P:Program}{w:World}{H:Hp}{h h':Heap}{C:Addr}(ok:HOk P w H h)(hC:H C=none)(k:∀b o,b≠C→h.get? b=some o→h'.get? b=some o):HOk P w H h':=fun b u e=>by
 refine(ok b u e).stay (fun c v hc q=>k c v ?_ q) (fun _ q=>q) fun _ _ q=>q
 rintro rfl
 rcases hc with z|z
 ·subst z;rw[hC] at e;cases e
 ·rw[hC] at z;cases z
theorem Y6{pins:List (Addr×Obj)}{σ:St}{H:Hp}{s:Shared}{QQ:V→Hp→Prop}{J:It}{fp:List Addr}{it acc:Addr}{tn:Nat→Heap→Prop}{RR:Addr→Result→Shared→Prop}{E:Value→Shared→Prop}{W:Nat→Nat→St→Hp→Prop}{m0:Nat}
  (S:xF X scope) (hc:X.calm=true) (hl:(s0 σ).length=N'.length)
  (hσ:∀(i:Nat) (v:V),(s0 σ)[i]?=some (some v)→∃(x:Str) (j:Nat),N'[i]?=some x∧X.N[j]?=some x∧σ[j]?=some (some v)∧scope.names.lookup x=some .free)
  (hg:∀s H C fp,PG (X.comp scope N' s H C fp) tg g) (ht:∀s H C fp,PTs (X.comp scope N' s H C fp) ifs ti) (he:∀s H C fp,PE (X.comp scope N' s H C fp) elt te)
  (I:Inv X pins σ H s) (T:Xt X.prog X.w X.K tg J fp it tn) (st:tn 0 s.heap) (hfp:∀b∈fp,Xw X pins H b) (hlt:∀b∈fp,b<s.heap.objs.size) (hacc:acc<s.heap.objs.size)
  (w0:W 0 m0 (s0 σ) H) (turn:∀i m σ1 H,W i m σ1 H→(J.stop i H∧QQ (.ref acc) H)∨(J.go i H∧∀x H',J.yld i H x H'→g x σ1 H' fun σ2 H2=>ti σ2 H2 fun b H3=>
    if b=true then te σ2 H3 fun y H4=>∃ys,H4 acc=some (.lst ys)∧ys.length<sizeLine∧∃m',m'<m∧W (i+1) m' σ2 (upd H4 acc (.lst (ys++[y]))) else ∃m',m'<m∧W (i+1) m' σ2 H3))
  (hRR:∀s',(∃m,s'.heap.Ns s.heap.objs.size m)→(∀h',Heap.SameBut s.heap.objs.size s'.heap h'→EP X pins σ (fun v H'=>QQ v H'∧H' s.heap.objs.size=none) (.ref acc) { s' with heap:=h' })→RR s.heap.objs.size (.ok .next) s') :
  wpAny (model X.prog X.w) X.A (newFunctionEnv scope X.env.globals (xW scope X.env) [] X.env.qual none .none (some X.env)) (fun cenv s₄=>
   codeAny (model X.prog X.w) X.A (.compStart (.ListComp elt [⟨tg,iter,ifs,0⟩] scope pos) 0 (.ref it) (.ref acc) { cenv with scope:=relabel scope X.env }) (RR cenv.locals) s₄) E s:=by
 refine wpAny_newFunctionEnv S.nocell (by intro y hy;simp at hy) (fun h1 hns hsb=>?_) S.kind
 have keep3:∀b o,s.heap.get? b=some o→h1.get? b=some o:=fun b o e=>hsb.extBut b o (ne_of_lt (Heap.lt_size e)) (get?_push_of_some _ e)
 have Y0:Inv (X.comp scope N' s H s.heap.objs.size fp) [] (s0 σ) H { s with heap:=h1,toks:=s.toks+([]:List (Str×Value)).length }:=MH S I hfp hlt hns keep3 hl hσ
 have fpY:∀{H':Hp},(∀b∈fp,H' b=none)→∀b∈fp,Xw (X.comp scope N' s H s.heap.objs.size fp) [] H' b:=fun {H'} hn b hb=>by
  obtain⟨f0,f1,f2,f3,f4,f5⟩:=hfp b hb
  refine⟨hn b hb,ne_of_lt (hlt b hb),fun z=>?_,.inl hb,fun x c e=>f4 x c (ZA S I.ok e),fun p hp=>absurd (show p∈([]:List (Addr×Obj)) from hp) (by simp)⟩
  rcases mem_cons.mp (I.stkSub b z) with q|q
  ·exact f1 q
  ·exact f2 q
 have st1:tn 0 h1:=T.keep _ _ _ st fun b hb o e=>keep3 b o e
 have loop:∀s3:Shared,s3 = { s with heap:=h1,toks:=s.toks+([]:List (Str×Value)).length } →
   codeAny (model X.prog X.w) X.A (.compLoop (.ListComp elt [⟨tg,iter,ifs,0⟩] scope pos) 0 (.ref it) (.ref acc) (X.comp scope N' s H s.heap.objs.size fp).env) (RR s.heap.objs.size) s3:=by
  rintro s3 rfl
  refine QE (fun n s'=>∃i σ' H',Inv (X.comp scope N' s H s.heap.objs.size fp) [] σ' H' s'∧tn i s'.heap∧(∀b∈fp,H' b=none)∧W i n σ' H') ?_ m0 ⟨0,s0 σ,H,Y0,st1,fun b hb=>(hfp b hb).1,w0⟩
  rintro n s4 ⟨i,σ4,H4,I4,st4,fr4,w4⟩
  rcases turn i n σ4 H4 w4 with ⟨stop,qn⟩|⟨go,step⟩
  ·refine thn (T.done (X.comp scope N' s H s.heap.objs.size fp) rfl rfl rfl hc i [] s4 σ4 H4 _ I4 (fpY fr4) st4 stop) fun r s5 z_=>?_
   obtain⟨hr,I5⟩:=z_
   subst hr
   obtain⟨m5,n5,_⟩:=id I5.loc
   have hC:H4 s.heap.objs.size=none:=I5.free
   refine hRR s5 ⟨m5,n5⟩ fun h' sb=>⟨.ref acc,H4,?_,rfl,qn,hC⟩
   refine I.call' (s':={ s5 with heap:=h' }) (ch:=fp) I5.os ⟨fun b o e n hb hx=>?_,fun b o e n hb hx=>?_,fun b o e n hx=>I5.base.free b o e n hx,fun b o e hx=>?_,I5.base.tups,I5.base.frzs,I5.base.tbls⟩ (Ln I5.hok hC fun b o hb e=>(sb.2 b hb).trans e) I5.bare fun b hb=>?_
   ·exact(sb.2 b (ne_of_lt (Heap.lt_size e))).trans (I5.base.keep b o e n hb hx)
   ·obtain⟨sl,q⟩:=I5.base.slot b o e n hb hx
    exact⟨sl,(sb.2 b (ne_of_lt (Heap.lt_size e))).trans q⟩
   ·obtain⟨o',q⟩:=I5.base.there b o e hx
    exact⟨o',(sb.2 b (ne_of_lt (Heap.lt_size e))).trans q⟩
   ·obtain⟨f0,f1,f2,f3,f4,f5⟩:=hfp b hb
    exact⟨f3,f1,f4,f5⟩
  ·refine thn (T.item (X.comp scope N' s H s.heap.objs.size fp) rfl rfl rfl hc i [] s4 σ4 H4 _ I4 (fpY fr4) st4 go) fun r s5 z_=>?_
   obtain⟨u,hr,h5⟩:=z_
   subst hr
   refine thn h5 fun _ s6 z_=>?_
   obtain⟨x,H6,I6,r6,y6,st6,fr6⟩:=z_
   have I6':=I6.pinned (fpY fr6) (T.obj _ _ st6)
   refine thn (hg _ _ _ _ _ s6 σ4 H6 x u _ I6' r6 (step x H6 y6)) fun _ s7 z_=>?_
   obtain⟨σ7,H7,I7,q7⟩:=z_
   refine thn (ht _ _ _ _ _ s7 σ7 H7 _ I7 q7) fun ok s8 z_=>?_
   obtain⟨H8,I8,q8⟩:=z_
   have again:∀{s9:Shared} {H9:Hp} {m':Nat},Inv (X.comp scope N' s H s.heap.objs.size fp) ([]++Yq fp s6.heap) σ7 H9 s9→m'<n→W (i+1) m' σ7 H9→∃m,m<n∧∃i σ' H',Inv (X.comp scope N' s H s.heap.objs.size fp) [] σ' H' s9∧tn i s9.heap∧(∀b∈fp,H' b=none)∧W i m σ' H':=fun {s9 H9 m'} I9 hm w9=>by
    refine⟨m',hm,i+1,σ7,H9,I9.unpinned,T.keep _ _ _ st6 fun b hb o e=>(I9.pin (b,o) (mem_append_right _ (mem_append_right _ (ua hb e)))).1,fun b hb=>?_,w9⟩
    obtain⟨o,e,d⟩:=T.obj _ _ st6 b hb
    exact(I9.pin (b,o) (mem_append_right _ (mem_append_right _ (ua hb e)))).2.1
   cases ok with
   |false=>
    rw[if_neg (by simp)] at q8
    obtain⟨m',hm,w8⟩:=q8
    exact again I8 hm w8
   |true=>
    rw[if_pos rfl] at q8
    refine thn (he _ _ _ _ _ s8 σ7 H8 _ I8 q8) fun y s9 z_=>?_
    obtain⟨z,H9,I9,r9,ys,e9,l9,m',hm,w9⟩:=z_
    refine thn (Zr _ s9 σ7 H9 (.ref acc) [z] (.ref acc) [y] (fun _ H'=>H'=upd H9 acc (.lst (ys++[z]))) I9 rfl (.cons r9 .nil) ⟨acc,ys,z,rfl,rfl,e9,l9,rfl⟩) fun _ s10 z_=>?_
    obtain⟨_,H10,I10,_,e10⟩:=z_
    subst e10
    exact again I10 hm w9
 exact codeAny_compStart_list (loop _ rfl) (T.self _ 0 _ _ _ st1 (loop _ rfl))
end
section
variable{X:Cx}{scope:Scope}{N':List Str}{tg iter elt:Expr}{ifs:List Expr}{pos:Pos}{wi:TI}{g:TG}{ti:TT}{te:TE}{s0:St→St}
theorem L3{pins:List (Addr×Obj)}{σ:St}{H:Hp}{s:Shared}{J:It}{fp:List Addr}{it:Addr}{tn:Nat→Heap→Prop}(T:Xt X.prog X.w X.K tg J fp it tn)(st:tn 0 s.heap):∀b∈fp,b<s.heap.objs.size:=fun b hb=>by
 obtain⟨o,e,_⟩:=T.obj 0 _ st b hb
 exact Heap.lt_size e
theorem Ja(S:xF X scope)(hc:X.calm=true)(hl:∀σ:St,σ.length=X.N.length→(s0 σ).length=N'.length)
  (hσ:∀(σ:St) (i:Nat) (v:V),(s0 σ)[i]?=some (some v)→∃(x:Str) (j:Nat),N'[i]?=some x∧X.N[j]?=some x∧σ[j]?=some (some v)∧scope.names.lookup x=some .free)
  (hi:PI X tg iter wi) (hg:∀s H C fp,PG (X.comp scope N' s H C fp) tg g) (ht:∀s H C fp,PTs (X.comp scope N' s H C fp) ifs ti) (he:∀s H C fp,PE (X.comp scope N' s H C fp) elt te)
  (hs:∀x,foldedSetIterable iter X.env x=pure x:=by intro _;rfl):PE X (.ListComp elt [⟨tg,iter,ifs,0⟩] scope pos) (UN s0 wi g ti te):=by
 intro pins s σ H Q I h
 rw[eval_ListComp]
 have hclos:=vK (scope:=scope) (env:=X.env) fun y hy hk=>Option.isSome_iff_exists.mpr (I.ok.has y.1 (S.free y hy hk))
 refine wpAny_comprehension_free (use:=none) rfl hs hclos S.kind S.locs (thn (hi pins s σ H _ I h) fun x s1 h1=>thn h1 fun itv s2 h2=>?_)
 obtain⟨it,fp,tn,J,H2,e,I2,T,st2,f2,hw⟩:=h2
 subst e
 have hf:H2 s2.heap.objs.size=none:=I2.hok.fresh (le_refl _)
 obtain⟨W,⟨m0,w0⟩,turn⟩:=hw _ hf
 have hlt:=L3 (pins:=pins) (σ:=σ) (H:=H2) T st2
 refine wpAny_newObj_type ?_
 have I3:Inv X pins σ (upd H2 s2.heap.objs.size (.lst [])) { s2 with heap:=s2.heap.push { cls:=.type "list", dict:=none,data:=.seq ([]:List Value).toArray } }:=
  I2.laid (t':=s2.toks) (o:=.lst []) (fun b u e=>get?_push_of_some _ e) (le_refl _) ⟨zero_le _,[],0,.nil,Heap.get?_push_size _ rfl⟩
 have hsz:s2.heap.objs.size<(s2.heap.push { cls:=.type "list", dict:=none,data:=.seq ([]:List Value).toArray }).objs.size:=by rw[Heap.size_push];exact Nat.lt_succ_self _
 refine Y6 (s0:=s0) (QQ:=Q) (W:=W) (m0:=m0) S hc (hl σ I2.len) (hσ σ) hg ht he I3 T (T.keep _ _ _ st2 fun b hb o e=>get?_push_of_some _ e) (fun b hb=>?_) (fun b hb=>Nat.lt_trans (hlt b hb) hsz) hsz w0 turn fun s' ⟨m,hn⟩ hq=>⟨m,hn,fun h' sb=>let ⟨v,H',I',r',q',_⟩:=hq h' sb;⟨v,H',I',r',q'⟩⟩
 obtain⟨f0,f1,f2,f3⟩:=f2 b hb
 exact⟨by rw[zi (ne_of_lt (hlt b hb))];exact f0,f1,f2,f3⟩
theorem U6{i:Nat}{y:Str}{py spos:Pos}(hN:X.N.Nodup)(hiN:X.N[i]?=some y)(hy:X.env.scope.names.lookup y=some .local)
  (hsw:swapsWith (.ListComp elt [⟨tg,iter,ifs,0⟩] scope pos) (some (.Name y py)) spos.line X.env=pure true)
  (S:xF X scope) (hc:X.calm=true) (hl:∀σ:St,σ.length=X.N.length→(s0 σ).length=N'.length)
  (hσ:∀(σ:St) (i:Nat) (v:V),(s0 σ)[i]?=some (some v)→∃(x:Str) (j:Nat),N'[i]?=some x∧X.N[j]?=some x∧σ[j]?=some (some v)∧scope.names.lookup x=some .free)
  (hi:PI X tg iter wi) (hg:∀s H C fp,PG (X.comp scope N' s H C fp) tg g) (ht:∀s H C fp,PTs (X.comp scope N' s H C fp) ifs ti) (he:∀s H C fp,PE (X.comp scope N' s H C fp) elt te)
  (hs:∀x,foldedSetIterable iter X.env x=pure x:=by intro _;rfl):PS X (.Assign [.Name y py] (.ListComp elt [⟨tg,iter,ifs,0⟩] scope pos) spos) (za7 (UN s0 wi g ti te) (X9 i)):=by
 intro pins s σ H D I h
 rw[exec_Assign_Name_used _ _ _ _ hsw]
 refine wpAny_bind (wpAny_standAt (wpAny_bind ?_))
 show wpAny _ X.A (do let _ ← comprehension (.ListComp elt [⟨tg,iter,ifs,0⟩] scope pos) scope X.env _ (newList []) false (eval iter X.env) (some (assign (.Name y py) X.env))) _ _ s
 have hclos:=vK (scope:=scope) (env:=X.env) fun y hy hk=>Option.isSome_iff_exists.mpr (I.ok.has y.1 (S.free y hy hk))
 refine wpAny_bind (wpAny_mono (wpAny_comprehension_free (use:=some (assign (.Name y py) X.env)) (Q:=fun _ s'=>SP X pins D .next s') rfl hs hclos S.kind S.locs
  (thn (hi pins s σ H _ I h) fun x s1 h1=>thn h1 fun itv s2 h2=>?_)) (fun _ s' hq=>wpAny_pure (wpAny_pure hq)) fun _ _ e=>e)
 obtain⟨it,fp,tn,J,H2,e,I2,T,st2,f2,hw⟩:=h2
 subst e
 have hf:H2 s2.heap.objs.size=none:=I2.hok.fresh (le_refl _)
 obtain⟨W,⟨m0,w0⟩,turn⟩:=hw _ hf
 have hlt:=L3 (pins:=pins) (σ:=σ) (H:=H2) T st2
 refine wpAny_newObj_type ?_
 have I3:Inv X pins σ (upd H2 s2.heap.objs.size (.lst [])) { s2 with heap:=s2.heap.push { cls:=.type "list", dict:=none,data:=.seq ([]:List Value).toArray } }:=
  I2.laid (t':=s2.toks) (o:=.lst []) (fun b u e=>get?_push_of_some _ e) (le_refl _) ⟨zero_le _,[],0,.nil,Heap.get?_push_size _ rfl⟩
 have hsz:s2.heap.objs.size<(s2.heap.push { cls:=.type "list", dict:=none,data:=.seq ([]:List Value).toArray }).objs.size:=by rw[Heap.size_push];exact Nat.lt_succ_self _
 refine Y6 (s0:=s0) (QQ:=fun x H1=>X9 i x σ H1 D.nx) (W:=W) (m0:=m0) S hc (hl σ I2.len) (hσ σ) hg ht he I3 T (T.keep _ _ _ st2 fun b hb o e=>get?_push_of_some _ e) (fun b hb=>?_) (fun b hb=>Nat.lt_trans (hlt b hb) hsz) hsz w0 turn fun s' ⟨m,hn⟩ hq=>?_
 ·obtain⟨f0,f1,f2,f3⟩:=f2 b hb
  exact⟨by rw[zi (ne_of_lt (hlt b hb))];exact f0,f1,f2,f3⟩
 ·obtain⟨v,H5,I5,r5,q5,hC⟩:=hq s'.heap (.refl ..)
  have I5:Inv X pins σ H5 s':=I5
  show wpAny _ X.A (assign (.Name y py) X.env _) _ _ s'
  refine wpAny_assign_Name (XD I5 hN hiN (.inl hy) r5 (fun s6 I6 z_=>?_) (.inr hy))
  obtain⟨a,sb,ha⟩:=z_
  have lt3:=I3.lt
  have ca:∀x c,X.env.cells.lookup x=some c→c<(s2.heap.push { cls:=.type "list", dict:=none,data:=.seq ([]:List Value).toArray }).objs.size:=fun x c e=>by
   obtain⟨v,z⟩:=I3.cell x c e
   exact z.lt
  have hne:(s2.heap.push { cls:=.type "list", dict:=none,data:=.seq ([]:List Value).toArray }).objs.size≠a:=by
   rcases ha with rfl|ha
   ·exact ne_of_gt lt3
   ·exact ne_of_gt (ca _ _ ha)
  refine⟨m,hn.sameBut sb hne,fun h' sb'=>⟨_,H5,?_,q5⟩⟩
  refine I6.turned (t':=s6.toks) (it:=(s2.heap.push { cls:=.type "list", dict:=none,data:=.seq ([]:List Value).toArray }).objs.size) (fun b o hb e=>(sb'.2 b hb).trans e) hC (ne_of_gt lt3) (.inr I3.sz) (fun x c e=>ne_of_lt (ca x c e)) fun p hp=>?_
  exact ne_of_lt (Heap.lt_size (I3.pin p hp).1)
end
noncomputable def vU(set:FG)(ft:FT)(fe:FE)(τ:DS):List D→Rs (List D)
 |[]=>.ok []
 |d::r=>match set d τ with
  |.ok τ1=>match ft τ1 with
   |.ok true=>match fe τ1 with
    |.ok x=>(vU set ft fe τ r).bind fun xs=>.ok (x::xs)
    |_=>.no
   |.ok false=>vU set ft fe τ r
   |_=>.no
  |_=>.no
noncomputable def jJ:Option (Option Sl)→Option Sl
 | some (some (.val d))=>some (.val d)
 | some (some (.obr c fs))=>some (.obr c fs)
 | some (some (.obj _ c fs))=>some (.obr c fs)
 |_=>none
noncomputable def vC(k:Nat)(idx:List Nat)(τ:DS):DS:=List.replicate k none++idx.map fun j=>jJ τ[j]?
noncomputable def wv(k:Nat)(idx:List Nat)(σ:St):St:=List.replicate k none++idx.map fun j=>(σ[j]?).join
noncomputable def xI(k:Nat)(idx:List Nat)(fi:FA)(set:FG)(ft:FT)(fe:FE):FA:=fun τ=>(fi τ).bind fun ds=>match vU set ft fe (vC k idx τ) ds with
 |.ok xs=>if xs.length≤sizeLine then .ok xs else .no
 |_=>.no
noncomputable def jh(τ:DS):Prop:=(∀(i:Nat) es,τ[i]?≠some (some (.own es)))∧∀(i n:Nat) c fs,τ[i]?≠some (some (.obj n c fs))
structure Wf(set:FG):Prop where
 ov:∀d e τ τ1,set e τ=.ok τ1→set d τ1=set d τ
 no:∀d τ τ1,set d τ=.ok τ1→jh τ→jh τ1
theorem Zq{τ:DS}{i:Nat}{d:D}(h:jh τ):jh (τ.set i (some (.val d))):=⟨fun j es e=>by
 by_cases hij:i=j
 ·subst hij
  rw[getElem?_set] at e
  simp only[if_true] at e
  split at e <;> cases e
 ·rw[getElem?_set_ne hij] at e;exact h.1 j es e,fun j n c fs e=>h.2 j n c fs (yH (s:=some (.val d)) rfl rfl e).2⟩
theorem vd(i:Nat):Wf (gNm i):=⟨fun d e τ τ1 h=>by
 unfold gNm at h ⊢;cases h;rw[set_set],fun d τ τ1 h n=>by unfold gNm at h;cases h;exact Zq n⟩
theorem Yj(i j:Nat):Wf (gPr i j):=⟨fun d e τ τ1 h=>by
 unfold gPr at h ⊢
 cases q:Yx e with
 |none=>rw[q] at h;cases h
 |some xy=>
  obtain⟨x,y⟩:=xy
  rw[q] at h;cases h
  cases q2:Yx d with
  |none=>rfl
  |some zw=>
   obtain⟨z,w⟩:=zw
   by_cases hij:i=j
   ·subst hij;simp[set_set]
   ·have e1:((τ.set i (some (.val x))).set j (some (.val y))).set i (some (.val z))=(τ.set i (some (.val z))).set j (some (.val y)):=by
     rw[List.set_comm _ _ (Ne.symm hij),set_set]
    simp only
    rw[e1,set_set]
    , fun d τ τ1 h n=>by
 unfold gPr at h
 cases q:Yx d with
 |none=>rw[q] at h;cases h
 |some xy=>
  obtain⟨x,y⟩:=xy
  rw[q] at h;cases h
  exact Zq (Zq n)⟩
theorem v8(k:Nat)(idx:List Nat)(τ:DS):∀(i:Nat) es,(vC k idx τ)[i]?≠some (some (.own es)):=fun i es e=>by
 unfold vC at e
 by_cases hi:i<k
 ·rw[getElem?_append_left (by simpa using hi),getElem?_replicate] at e
  simp[hi] at e
 ·rw[getElem?_append_right (by simpa using hi),getElem?_map] at e
  cases q:idx[i-(List.replicate k (none:Option Sl)).length]? with
  |none=>rw[q] at e;cases e
  |some j=>
   rw[q] at e
   simp only[Option.map_some,Option.some.injEq] at e
   unfold jJ at e
   split at e <;> cases e
theorem jx(k:Nat)(idx:List Nat)(τ:DS):∀(i n:Nat) c fs,(vC k idx τ)[i]?≠some (some (.obj n c fs)):=fun i n c fs e=>by
 unfold vC at e
 by_cases hi:i<k
 ·rw[getElem?_append_left (by simpa using hi),getElem?_replicate] at e
  simp[hi] at e
 ·rw[getElem?_append_right (by simpa using hi),getElem?_map] at e
  cases q:idx[i-(List.replicate k (none:Option Sl)).length]? with
  |none=>rw[q] at e;cases e
  |some j=>
   rw[q] at e
   simp only[Option.map_some,Option.some.injEq] at e
   unfold jJ at e
   split at e <;> cases e
theorem v9(k:Nat)(idx:List Nat)(τ:DS):jh (vC k idx τ):=⟨v8 k idx τ,jx k idx τ⟩
theorem GK{k:Nat}{idx:List Nat}{τ:DS}{i:Nat}{c:Str}{fs:List (Str×D)}(e:(vC k idx τ)[i]?=some (some (.obr c fs))):∃j,k≤i∧idx[i-k]?=some j∧((∃n,τ[j]?=some (some (.obj n c fs)))∨τ[j]?=some (some (.obr c fs))):=by
 unfold vC at e
 by_cases hi:i<k
 ·rw[getElem?_append_left (by simpa using hi),getElem?_replicate] at e
  simp[hi] at e
 ·rw[getElem?_append_right (by simpa using hi),getElem?_map] at e
  simp only[length_replicate] at e
  cases q:idx[i-k]? with
  |none=>rw[q] at e;cases e
  |some j=>
   rw[q] at e
   simp only[Option.map_some,Option.some.injEq] at e
   unfold jJ at e
   split at e <;> cases e
   ·exact⟨j,by lia,rfl,.inr (by assumption)⟩
   ·exact⟨j,by lia,rfl,.inl ⟨_,by assumption⟩⟩
theorem ObsOk.read{K:Frag}{F H:Hp}{τ:DS}{σ:St}(n:jh τ)(h:∀(i:Nat) (c:Str) (fs:List (Str×D)),τ[i]?=some (some (.obr c fs))→∃a C dx vs,σ[i]?=some (some (.ref a))∧H a=some (.ins C dx vs)∧nsIn K mainGlobals c=some (some (.ref C))∧Flds K F H c fs vs):ObsOk K F τ σ H:=
 ⟨fun i m c fs h=>absurd h (n.2 i m c fs),fun i j m c c' fs a _ h=>absurd h (n.2 i m c fs),h,fun i j m c c' fs a a' l _ h=>absurd h (n.2 i m c fs),fun i j c ds a l _ h=>absurd h (n.1 j ds)⟩
theorem RV.free_upd{K:Frag}{F H:Hp}{τ:DS}{σ:St}{p:Addr}{o:HO}(R:RV K F τ σ H)(n:jh τ)(hp:F p=none)(hl:H p=none∨∃vs,H p=some (.lst vs))(hq:∀(i:Nat) (c:Str) (a:Addr),ObS τ[i]? c→σ[i]?=some (some (.ref a))→p∉Lof H c a)(ho:∀a,o≠.own a:=by intro _ h;cases h):RV K F τ σ (upd H p o):=
 ⟨fun b u e=>by
  have:b≠p:=fun z=>by subst z;rw[hp] at e;cases e
  rw[zi this];exact R.fh b u e,R.len,R.val,fun i es e=>absurd e (n.1 i es),fun i j ds es a _ h=>absurd h (n.1 i ds),R.tt.step (fun _ _ e=>.inl e) (fun b o e n=>by
  have:b≠p:=fun z=>by
   subst z
   rcases hl with z|⟨vs,z⟩
   ·rw[z] at e;cases e
   ·rw[z] at e;cases e;exact n _ rfl
  rw[zi this];exact e) (vG ho),R.ob.updL hl hq⟩
theorem RS.apart{K:Frag}{B Z F H:Hp}{τ:DS}{σ:St}{p:Addr}(R:RS K B Z F τ σ H)(n:jh τ)(hp:B p=none):∀(i:Nat) (c:Str) (a:Addr),ObS τ[i]? c→σ[i]?=some (some (.ref a))→p∉Lof H c a:=fun i c a h e hm=>by
 rcases h with ⟨m,fs,h⟩|⟨fs,h⟩
 ·exact n.2 i m c fs h
 ·obtain⟨C,dx,vs,h1,h2⟩:=R.ro i c fs a h e
  rw[Lof.ins (R.bh _ _ h1)] at hm
  obtain⟨ws,h3⟩:=h2 p hm
  rw[hp] at h3;cases h3
theorem RS.free_upd{K:Frag}{B Z F H:Hp}{τ:DS}{σ:St}{p:Addr}{vs:List V}(R:RS K B Z F τ σ H)(n:jh τ)(hb:B p=none)(hp:F p=none)(hl:H p=none∨∃vs,H p=some (.lst vs)):RS K B Z F τ σ (upd H p (.lst vs)):=
 ⟨R.rv.free_upd n hp hl (R.apart n hb),fun a o e=>by
  have:a≠p:=fun z=>by subst z;rw[hb] at e;cases e
  rw[zi this];exact R.bh a o e,R.zf,R.nb,fun i ds a h=>absurd h (n.1 i ds),fun i m c fs a h=>absurd h (n.2 i m c fs),fun a0 dx h1 h2 i m c fs h=>absurd h (n.2 i (m+1) c fs),R.ro⟩
theorem Wo{K:Frag}{F H:Hp}{τ:DS}{σ:St}(k:Nat)(idx:List Nat)(R:RV K F τ σ H):RV K F (vC k idx τ) (wv k idx σ) H:=by
 refine⟨R.fh,by simp[vC,wv],fun i d e=>?_,fun i es e=>absurd e (v8 k idx τ i es),fun i j ds es a _ h=>absurd h (v8 k idx τ i ds),R.tt,ObsOk.read (v9 k idx τ) fun i c fs e=>?_⟩
 rotate_left
 ·obtain⟨j,hk,hj,h⟩:=GK e
  have es:∀v,σ[j]?=some (some v)→(wv k idx σ)[i]?=some (some v):=fun v h=>by
   unfold wv
   rw[getElem?_append_right (by simpa using hk),getElem?_map]
   simp[hj,h]
  rcases h with ⟨n,h⟩|h
  ·obtain⟨a,h1,C,dx,vs,h2,_,h4,h5,_⟩:=R.ob.at_ j n c fs h
   exact⟨a,C,dx,vs,es _ h1,h2,h4,h5⟩
  ·obtain⟨a,C,dx,vs,h1,h2,h4,h5⟩:=R.ob.rd j c fs h
   exact⟨a,C,dx,vs,es _ h1,h2,h4,h5⟩
 unfold vC at e
 unfold wv
 by_cases hi:i<k
 ·rw[getElem?_append_left (by simpa using hi),getElem?_replicate] at e
  simp[hi] at e
 ·rw[getElem?_append_right (by simpa using hi),getElem?_map] at e
  rw[getElem?_append_right (by simpa using hi),getElem?_map]
  simp only[length_replicate] at e ⊢
  cases q:idx[i-k]? with
  |none=>rw[q] at e;cases e
  |some j=>
   rw[q] at e
   simp only[Option.map_some,Option.some.injEq] at e
   have:τ[j]?=some (some (.val d)):=by
    unfold jJ at e
    split at e <;> cases e
    assumption
   obtain⟨v,h1,h2⟩:=R.val j d this
   exact⟨v,by simp[h1],h2⟩
theorem Td{K:Frag}{F H:Hp}{τ:DS}{σ:St}(k:Nat)(idx:List Nat)(R:RV K F τ σ H):RS K H F F (vC k idx τ) (wv k idx σ) H:=
 ⟨Wo k idx R,Hh.refl H,Same.refl F,fun a o e=>.inl e,fun i ds a h=>absurd h (v8 k idx τ i ds),fun i m c fs a h=>absurd h (jx k idx τ i m c fs),fun a0 dx h1 h2 i m c fs h=>absurd h (jx k idx τ i (m+1) c fs),fun i c fs a h e=>by
  obtain⟨a',C,dx,vs,h1,h2,_,h5⟩:=(Wo k idx R).ob.rd i c fs h
  rw[e] at h1;cases h1
  exact⟨C,dx,vs,h2,fun l hl=>(h5.own hl).2⟩⟩
noncomputable def wS(H:Hp)(p:Addr):Hp:=fun b=>if b=p then none else H b
theorem uK(H:Hp)(p:Addr):wS H p p=none:=by unfold wS;rw[if_pos rfl]
theorem Zx{H:Hp}{p b:Addr}(h:b≠p):wS H p b=H b:=by unfold wS;rw[if_neg h]
theorem Yf(H:Hp)(p:Addr)(o:HO):upd (wS H p) p o=upd H p o:=by
 funext b;unfold upd wS;split <;> rfl
theorem Y1{F1 H1 F2 Hm F5 H5:Hp}{acc:Addr}{ls:List V}(a:Ext F1 H1 F2 Hm)(hm:Hm acc=none)(b:Ext F2 (upd Hm acc (.lst ls)) F5 H5):Ext F1 H1 F5 (wS H5 acc)∧F5 acc=none:=by
 have hf5:F5 acc=none:=by
  cases q:F5 acc with
  |none=>rfl
  |some o=>
   rcases b.nw acc o q with z|z
   ·rw[zH a.fh hm] at z;cases z
   ·rw[zn] at z;cases z
 have h1:H1 acc=none:=xg a.hh hm
 have ha:H5 acc=some (.lst ls):=b.hh acc _ zn
 refine⟨⟨a.ff.trans b.ff,fun c o e=>?_,fun c o e=>?_,fun c o e=>?_,fun t=>?_⟩,hf5⟩
 ·have n:c≠acc:=fun z=>by subst z;rw[h1] at e;cases e
  rw[Zx n]
  exact((a.hh.trans (.of (z7 hm))).trans b.hh) c o e
 ·have n:c≠acc:=fun z=>by subst z;rw[hf5] at e;cases e
  rw[Zx n];exact b.fh c o e
 ·rcases b.nw c o e with z|z
  ·exact a.nw c o z
  ·have n:c≠acc:=fun z'=>by subst z';rw[zn] at z;cases z
   rw[zi n] at z
   exact .inr (xg a.hh z)
 ·have t2:=b.tt ((a.tt t).step (F':=F2) (H':=upd Hm acc (.lst ls)) (fun _ _ e=>.inl e) (fun c o e _=>by rw[zi (zF e hm)];exact e) (vG fun _ z=>nomatch z))
  exact t2.step (fun _ _ e=>.inl e) (fun c o e n=>by
   have:c≠acc:=fun z=>by subst z;rw[ha] at e;cases e;exact n _ rfl
   rw[Zx this];exact e) fun d a e=>by
   unfold wS at e
   split at e
   ·cases e
   ·exact e
noncomputable def FreeOk(scope:Scope)(N:List Str):List Str→List Nat→Prop
 |[],[]=>True
 |x::xs,j::js=>N[j]?=some x∧scope.names.lookup x=some .free∧FreeOk scope N xs js
 |_,_=>False
theorem FreeOk.len{scope:Scope}{N:List Str}:∀{xs:List Str} {js:List Nat},FreeOk scope N xs js→xs.length=js.length
 |[],[],_=>rfl
 |_::xs,_::js,h=>by rw[length_cons,length_cons,FreeOk.len h.2.2]
theorem FreeOk.get{scope:Scope}{N:List Str}:∀{xs:List Str} {js:List Nat} {p j:Nat},FreeOk scope N xs js→js[p]?=some j→∃x,xs[p]?=some x∧N[j]?=some x∧scope.names.lookup x=some .free
 |[],[],_,_,_,e=>by simp at e
 |x::xs,i::js,0,j,h,e=>by simp at e;subst e;exact⟨x,rfl,h.1,h.2.1⟩
 |x::xs,i::js,p+1,j,h,e=>by
  obtain⟨y,h1,h2⟩:=FreeOk.get (p:=p) h.2.2 (by simpa using e)
  exact⟨y,by simpa using h1,h2⟩
noncomputable def uf(osc scope:Scope):Bool:=(match scope.kind with | .function=>true|_=>false)&&scope.names.all (fun y=>match y.2 with
 |.cell=>false
 |.local=>(match scope.names.lookup y.1 with|some .local=>true|_=>false)
 |.free=>(match osc.names.lookup y.1 with|some .cell=>true|some .free=>true|_=>false)
 |_=>true)
theorem wt{X:Cx}{scope:Scope}(h:uf X.env.scope scope=true):xF X scope:=by
 unfold uf at h
 rw[Bool.and_eq_true,all_eq_true] at h
 obtain⟨h1,h2⟩:=h
 refine⟨?_,fun y hy z=>?_,fun y hy z=>?_,fun y hy z=>?_⟩
 ·split at h1
  ·assumption
  ·cases h1
 ·have:=h2 y hy;rw[z] at this;cases this
 ·have:=h2 y hy;rw[z] at this
  simp only at this
  split at this
  ·assumption
  ·cases this
 ·have:=h2 y hy;rw[z] at this
  simp only at this
  split at this
  ·left;assumption
  ·right;assumption
  ·cases this
noncomputable def MS(Y:Cx)(ifs:List Expr)(f:FT):Prop:=PTs Y ifs (tTs Y f)
theorem vP{Y:Cx}:MS Y [] (fun _=>.ok true):=fun pins s σ H Q I z_=>by obtain⟨F,τ,R,h⟩:=z_;exact To pins s σ H Q I (h F H (Ext.refl R.fh))
theorem uB{Y:Cx}{c:Expr}{f:FT}(h:PDT Y c f):MS Y [c] f:=Tn h
section
variable{X:Cx}{scope:Scope}{tn fr:List Str}{idx:List Nat}{tg iter elt:Expr}{ifs:List Expr}{pos:Pos}{fi:FA}{set:FG}{ft:FT}{fe:FE}
structure CWH(K:Frag)(set:FG)(ft:FT)(fe:FE)(t0:DS)(ds xs:List D)(F1 H1:Hp)(acc:Addr)(i:Nat)(σ1:St)(Hc F2 Hm:Hp)(τ1:DS)(dn rs:List D)(vs:List V):Prop where
 a1:Ext F1 H1 F2 Hm
 a2:Hm acc=none
 a3:Hc=upd Hm acc (.lst vs)
 a4:Reps K F2 dn vs
 a5:RS K H1 F1 F2 τ1 σ1 Hc
 a6:jh τ1
 a7:∀d,set d τ1=set d t0
 a8:vU set ft fe t0 (ds.drop i)=.ok rs
 a9:xs=dn++rs
theorem jM(hfr:FreeOk scope X.N fr idx)(σ:St)(i:Nat)(v:V)(h:(wv tn.length idx σ)[i]?=some (some v)):∃(x:Str) (j:Nat),(tn++fr)[i]?=some x∧X.N[j]?=some x∧σ[j]?=some (some v)∧scope.names.lookup x=some .free:=by
 unfold wv at h
 by_cases hi:i<tn.length
 ·rw[getElem?_append_left (by simpa using hi),getElem?_replicate] at h
  simp[hi] at h
 ·rw[getElem?_append_right (by simpa using hi),getElem?_map] at h
  simp only[length_replicate] at h
  cases q:idx[i-tn.length]? with
  |none=>rw[q] at h;cases h
  |some j=>
   rw[q] at h
   simp only[Option.map_some,Option.some.injEq] at h
   obtain⟨x,h1,h2,h3⟩:=hfr.get q
   refine⟨x,j,by rw[getElem?_append_right (by lia)];exact h1,h2,?_,h3⟩
   cases z:σ[j]? with
   |none=>rw[z] at h;cases h
   |some o=>rw[z] at h;simp at h;rw[h]
end
section
variable{prog:Program}{w:World}{A:Around}{E:Value→Shared→Prop}{s:Shared}{z TI TO i1 i2:Addr}{n1 n2:Nat}{P1 P2:Nat→Value→Prop}{st1 st2:Nat→Heap→Prop}{rd1 rd2:Heap→Prop}
end
theorem MU{X:Cx}{pins:List (Addr×Obj)}{σ:St}{H:Hp}{s:Shared}{h':Heap}{t':Nat}{ch:List Addr}{p:Addr}{xs:List V}{its:List Value}(I:Inv X pins σ H s)(k:∀b o,b∉ch→s.heap.get? b=some o→h'.get? b=some o)(hf:∀b∈ch,Xw X pins H b)
  (hp:s.heap.objs.size≤p) (ht:IsTup h' p its.toArray) (hv:Vals xs its) (hz:xs.length≤sizeLine) :
  Inv X pins σ (upd H p (.tup xs)) { s with heap:=h',toks:=t' }:=by
 have hn:H p=none:=I.hok.fresh hp
 have lt:∀{b:Addr} {o:Obj},s.heap.get? b=some o→b≠p:=fun e=>ne_of_lt (lt_of_lt_of_le (Heap.lt_size e) hp)
 refine I.step (g':=s.gens) (d':=s.drawn) (ch:=ch) (fun b hb=>?_) (fun b o _ _ hc e _=>k b o hc e) (fun b o _ _ hc e _=>⟨o.slots,k b o hc e⟩) (fun b o _ e n=>by rw[zi (lt e)];exact n)
  (fun b o hc e=>⟨o,k b o hc e⟩) (fun b ys e=>by rw[zi (zF e hn)];exact e) (fun b o u e=>by rw[zi (zF e hn)];exact e) (fun b ps e=>⟨#[],by rw[zi (zF e hn),e];simp⟩) (fun m hm=>?_) (fun b u e=>?_) I.bare
 ·obtain⟨f0,f1,f2,f3,f4,f5⟩:=hf b hb
  exact⟨f3,f1,f4,f5⟩
 ·obtain⟨o,es,ep,ho,r⟩:=hm
  exact⟨o,es,ep,k _ o (fun z=>(hf _ z).2.1 rfl) ho,r⟩
 ·by_cases hb:b=p
  ·subst hb;rw[zn] at e;cases e
   exact⟨hz,its,hv,ht⟩
  ·rw[zi hb] at e
   refine(I.hok b u e).stay (fun c v hc q=>k c v ?_ q) (fun c q=>by rw[zi (zF q hn)];exact q) fun c ys q=>by rw[zi (zF q hn)];exact q
   intro z
   rcases hc with q|q
   ·subst q;rw[(hf c z).1] at e;cases e
   ·rw[(hf c z).1] at q;cases q
noncomputable def zD(c:Nat):D:=.str ⟨#[c]⟩
noncomputable def uz(x:Str):List D:=x.cps.toList.map zD
noncomputable def Its(x:Str):It:=⟨fun i _=>i<x.cps.size,fun i H y H'=>H'=H∧∃c,x.cps[i]?=some c∧y=.str ⟨#[c]⟩,fun i _=>x.cps.size≤i⟩
theorem QP{P:Program}{w:World}{K:Frag}{tg:Expr}{it:Addr}{x:Str}{t:Tok}{ty:String}(hty:ty = "str_ascii_iterator" ∨ ty = "str_iterator"):Xt P w K tg (Its x) [it] it (fun k h=>h.IsStrIter it ty x t k) where
 mem:=by simp
 obj:=fun i h ⟨o,e,c,d⟩ b hb=>by
  have z:b=it:=by simpa using hb
  subst z
  exact⟨o,e,fun v z=>by rw[d] at z;cases z⟩
 keep:=fun i h h' ⟨o,e,r⟩ k=>⟨o,k it (by simp) o e,r⟩
 item:=by
  intro X hP hw hK hc i pins s σ H E I hf st hg
  subst hP hw hK
  obtain⟨f0,f1,f2,f3,f4,f5⟩:=hf it (by simp)
  have hh:X.A.handled=none:=I.ok.hd hc
  have W:Walks X.prog X.w X.A it [it] [it] x.cps.size (SignAt x) (fun i h=>h.IsStrIter it ty x t i):=by
   rcases hty with rfl|rfl
   ·exact Walks.strAscii hh it x t
   ·exact Walks.strWide hh it x t
  refine W.item i s _ _ hg st fun v h' tk hv st' kk=>?_
  obtain⟨c,u,ec,rfl⟩:=hv
  have I1:Inv X pins σ H { s with heap:=h',toks:=tk }:=I.turned (fun b o hb e=>kk b o (by simpa using hb) e) f0 f1 f3 f4 f5
  obtain⟨o,e,cc,d⟩:=id st'
  exact⟨_,rfl,X8 (s:={ s with heap:=h',toks:=tk }) e cc d (by rcases hty with rfl|rfl <;> decide) ⟨.str ⟨#[c]⟩,H,I1,⟨u,rfl⟩,⟨rfl,c,ec,rfl⟩,st',fun b hb=>(hf b hb).1⟩⟩
 done:=by
  intro X hP hw hK hc i pins s σ H E I hf st hg
  subst hP hw hK
  obtain⟨f0,f1,f2,f3,f4,f5⟩:=hf it (by simp)
  have hh:X.A.handled=none:=I.ok.hd hc
  have hx:x.cps[i]?=none:=by have:x.cps.size≤i:=hg;simp;lia
  rcases hty with rfl|rfl
  ·exact wpAny_pyNext_ascii_end hh st hx fun h' eb=>⟨rfl,I.turned (t':=s.toks) (fun b o hb e=>eb b o hb e) f0 f1 f3 f4 f5⟩
  ·exact wpAny_pyNext_wide_end hh st hx fun h' eb=>⟨rfl,I.turned (t':=s.toks) (fun b o hb e=>eb b o hb e) f0 f1 f3 f4 f5⟩
 self:=fun _ _ _ _ _ st h=>by
  rcases hty with rfl|rfl
  ·exact wpAny_pyIter_striter_ascii st h
  ·exact wpAny_pyIter_striter_wide st h
section
variable{X:Cx}{pos:Pos}{e tg:Expr}{es:List Expr}{fe:FE}{fs:FA}
theorem zg5{K:Frag}{F1:Hp}{x:Str}:VW K (Its x) F1 (uz x):=fun i F H f1 f2=>by
 have hl:(uz x).length=x.cps.size:=by simp[uz]
 refine⟨fun h=>by rw[hl] at h;exact h,fun d hd=>?_⟩
 have hi:i<x.cps.size:=by have:=(List.getElem?_eq_some_iff.mp hd).1;rw[hl] at this;exact this
 refine⟨hi,fun y H' yy=>?_⟩
 obtain⟨e1,c,ec,rfl⟩:=yy
 subst e1
 refine⟨F,Ext.refl f2,?_⟩
 have:d=zD c:=by
  simp only[uz,getElem?_map] at hd
  have e2:x.cps.toList[i]?=some c:=by simpa using ec
  rw[e2] at hd
  exact(Option.some.inj hd).symm
 subst this
 simp only[zD,Rep]
noncomputable def Itd(hi:Int)(n:Nat):It:=⟨fun i _=>i<n,fun i H x H'=>H'=H∧x=.int (hi-i),fun i _=>n≤i⟩
theorem WT{P:Program}{w:World}{K:Frag}{tg:Expr}(it:Addr)(hi:Int)(n:Nat):Xt P w K tg (Itd hi n) [it] it (fun i h=>IsRangeIter h it (hi+(i:Nat)*(-1)) ((n:Int)-(i:Nat)) (-1)) where
 mem:=by simp
 obj:=fun i h st b hb=>by
  have e:b=it:=by simpa using hb
  subst e
  exact⟨_,st,fun v z=>by
   have z':Data.fields _=Data.cell v:=z
   cases z'⟩
 keep:=fun i h h' st k=>k it (by simp) _ st
 item:=by
  intro X hP hw hK hc i pins s σ H E I hf st hg
  subst hP hw hK
  obtain⟨f0,f1,f2,f3,f4,f5⟩:=hf it (by simp)
  have W:=Walks.range (prog:=X.prog) (w:=X.w) (I.ok.hd hc) it hi (-1) n
  refine W.item i s _ _ hg st fun v h' tk hv st' kk=>?_
  obtain⟨t,rfl⟩:=hv
  have I1:Inv X pins σ H { s with heap:=h',toks:=tk }:=I.turned (fun b o hb e=>kk b o (by simpa using hb) e) f0 f1 f3 f4 f5
  refine⟨_,rfl,X8 (s:={ s with heap:=h',toks:=tk }) (n := "range_iterator") st' rfl rfl (by decide) ⟨.int (hi-i),H,I1,⟨t,?_⟩,⟨rfl,rfl⟩,st',fun b hb=>(hf b hb).1⟩⟩
  congr 1
  lia
 done:=by
  intro X hP hw hK hc i pins s σ H E I hf st hg
  subst hP hw hK
  obtain⟨f0,f1,f2,f3,f4,f5⟩:=hf it (by simp)
  exact wpAny_pyNext_range_end (I.ok.hd hc) st (by have:n≤i:=hg;lia) fun h' eb=>⟨rfl,I.turned (t':=s.toks) (fun b o hb e=>eb b o hb e) f0 f1 f3 f4 f5⟩
 self:=fun _ _ _ _ _ st h=>wpAny_pyIter_rangeiter st h
end
section
variable{X:Cx}{pos:Pos}{e tg:Expr}{es:List Expr}{fe:FE}{fs:FA}
noncomputable def len1:D→Rs D
 |.lst ds=>.ok (.int ds.length)
 |.tup ds=>.ok (.int ds.length)
 |.scr ns=>.ok (.int ns.length)
 |.str x=>if x.length≤sizeLine then .ok (.int x.length) else .no
 |_=>.no
noncomputable def xj:List D→Rs D
 |[d]=>len1 d
 |_=>.no
theorem xX:JQ X (.builtin "len") xj:=⟨_,call_len_seq.or WO,fun F H vs ds Q fh r h=>by
 match ds,r,h with
 |[d],r,h=>
  obtain⟨v,rfl,q⟩:=r.one
  cases d with
  |lst ds=>
   simp only[Rep] at q;obtain⟨a,ws,rfl,e1,t⟩:=q
   refine .inl ⟨a,ws,rfl,.inl (SqL.of (fh _ _ e1)),?_⟩
   rw[← t.length];exact h _ F H (Ext.refl fh) (by simp only[Rep])
  |tup ds=>
   simp only[Rep] at q;obtain⟨a,ws,rfl,e1,t⟩:=q
   refine .inl ⟨a,ws,rfl,.inr (Same.seqT fh e1),?_⟩
   rw[← t.length];exact h _ F H (Ext.refl fh) (by simp only[Rep])
  |scr ns=>
   simp only[Rep] at q;obtain⟨a,rfl,e1⟩:=q
   refine .inl ⟨a,_,rfl,.inl (fh.seq e1),?_⟩
   rw[length_map];exact h _ F H (Ext.refl fh) (by simp only[Rep])
  |str x=>
   simp only[Rep] at q;subst q
   obtain⟨z,h⟩:=yL h
   exact .inr ⟨x,rfl,z,h _ F H (Ext.refl fh) (by simp only[Rep])⟩
  |_=>exact h.elim
 |[],_,h=>exact h.elim
 |_::_::_,_,h=>exact(show False from h).elim⟩
noncomputable def jW(ds:List D):Rs D:=match Ut ds with
 | some (i,j)=>.ok (.int (if j<i then j else i))
 |none=>.no
noncomputable def YI(ds:List D):Rs D:=match Ut ds with
 | some (i,j)=>.ok (.int (if j > i then j else i))
 |none=>.no
theorem WN(hc:X.calm=true):JQ X (.builtin "min") jW:=⟨_,QG hc,fun F H vs ds Q fh r h=>by
 unfold jW at h
 cases q:Ut ds with
 |none=>rw[q] at h;exact h.elim
 |some ij=>
  obtain⟨i,j⟩:=ij
  rw[q] at h
  have e:=Jz q
  subst e
  obtain⟨v,w,rfl,r1,r2⟩:=r.two
  simp only[Rep] at r1 r2;subst r1;subst r2
  exact⟨i,j,rfl,h _ F H (Ext.refl fh) (by simp only[Rep])⟩⟩
theorem LA(hc:X.calm=true):JQ X (.builtin "max") YI:=⟨_,QH hc,fun F H vs ds Q fh r h=>by
 unfold YI at h
 cases q:Ut ds with
 |none=>rw[q] at h;exact h.elim
 |some ij=>
  obtain⟨i,j⟩:=ij
  rw[q] at h
  have e:=Jz q
  subst e
  obtain⟨v,w,rfl,r1,r2⟩:=r.two
  simp only[Rep] at r1 r2;subst r1;subst r2
  exact⟨i,j,rfl,h _ F H (Ext.refl fh) (by simp only[Rep])⟩⟩
theorem rangeSize_down(a b:Int):Builtin.Range.rangeSize a b (-1)=((a-b).toNat:Int):=by
 unfold Builtin.Range.rangeSize
 rw[if_neg (by decide)]
 by_cases h:a > b
 ·rw[if_pos h,show(- -1:Int)=1 from rfl,Int.ediv_one];lia
 ·rw[if_neg h];lia
theorem small_down{a b:Int}(ha : -(2 ^ 62)≤a)(ha':a<2 ^ 62)(hb : -(2 ^ 62)≤b)(hb':b<2 ^ 62):Builtin.Range.small a b (-1)=true:=by
 unfold Builtin.Range.small
 rw[rangeSize_down]
 simp only[Builtin.Range.rangeFitsLong,Bool.and_eq_true,Bool.or_eq_true,decide_eq_true_eq,beq_iff_eq,show ¬ (-1:Int) > 0 by decide,if_false]
 lia
noncomputable def iRngD(ta:TA):TI:=fun σ H R=>ta σ H fun vs H1=>∃i j:Int,vs=[.int i,.int j,.int (-1)]∧(-(2 ^ 62)≤i∧i<2 ^ 62∧-(2 ^ 62)≤j∧j<2 ^ 62)∧R (Itd i (i-j).toNat) H1
theorem J6{a b c:Expr}{ta:TA}{p pos:Pos}(hg:Gl X "range")(hm:X.mg "range" = none)(ha:PA X [a,b,c] ta)(hs:starEach [a,b,c] X.env=[(false,eval a X.env),(false,eval b X.env),(false,eval c X.env)]:=by rfl)(hs2:starEach [b,c] X.env=[(false,eval b X.env),(false,eval c X.env)]:=by rfl) :
  PI X tg (.Call (.Name "range" p) [a,b,c] [] pos) (iRngD ta):=by
 intro pins s σ H R I h
 refine Call_ (uI I hg hm boot_range (PyProof.Rows.callWith_type1 (thn (ha pos pins s σ H _ I h) fun us s1 z_=>?_) (by rw[hs,hs2]) (by rw[hs2];rfl)))
 obtain⟨vs,H1,I1,r1,q1⟩:=z_
 obtain⟨i,j,e,⟨q1,q2,q3,q4⟩,q⟩:=q1
 subst e
 cases r1 with
 |cons r rr=>
  cases rr with
  |cons r' rr=>
   cases rr with
   |cons r'' rr=>
    cases rr
    obtain⟨t,rfl⟩:=r
    obtain⟨t',rfl⟩:=r'
    obtain⟨t'',rfl⟩:=r''
    refine call_range_3 (by decide) ?_ (.inl (PyProof.noPylong_small (by decide)))
    have I2:Inv X pins σ H1 { s1 with heap:=s1.heap.push { cls:=.type "range", data:=.fields #[.int i t,.int j t',.int (-1) t''] },toks:=s1.toks }:=I1.kept fun b o e=>get?_push_of_some _ e
    refine wpAny_pyIter_range (IsRange.new ..) (small_down q1 q2 q3 q4) ?_
    refine⟨(s1.heap.push { cls:=.type "range", data:=.fields #[.int i t,.int j t',.int (-1) t''] }).objs.size,[(s1.heap.push { cls:=.type "range", data:=.fields #[.int i t,.int j t',.int (-1) t''] }).objs.size],_,_,H1,rfl,
     I2.kept (t':=s1.toks) fun b o e=>get?_push_of_some _ e,WT _ i (i-j).toNat,?_,fun b hb=>?_,q⟩
    ·have e1:i+((0:Nat):Int)*(-1)=i:=by simp
     have e2:(((i-j).toNat:Nat):Int)-((0:Nat):Int)=Builtin.Range.rangeSize i j (-1):=by rw[rangeSize_down];lia
     show IsRangeIter _ _ (i+((0:Nat):Int)*(-1)) ((((i-j).toNat:Nat):Int)-((0:Nat):Int)) (-1)
     rw[e1,e2]
     exact Heap.get?_push_size _ rfl
    ·have e:b=(s1.heap.push { cls:=.type "range", data:=.fields #[.int i t,.int j t',.int (-1) t''] }).objs.size:=by simpa using hb
     subst e
     exact I2.fpOk (le_refl _) (I2.hok.fresh (le_refl _))
noncomputable def ZD(hi:Int)(n:Nat):List D:=(List.range n).map fun (k:Nat)=>D.int (hi-k)
theorem Li{K:Frag}{F1:Hp}{lo:Int}{n:Nat}:VW K (Itd lo n) F1 (ZD lo n):=fun i F H f1 f2=>by
 have hl:(ZD lo n).length=n:=by simp[ZD]
 refine⟨fun h=>by rw[hl] at h;exact h,fun d hd=>?_⟩
 have hi:i<n:=by have:=(List.getElem?_eq_some_iff.mp hd).1;rw[hl] at this;exact this
 refine⟨hi,fun x H' y=>?_⟩
 obtain⟨e1,y⟩:=y
 subst e1
 refine⟨F,Ext.refl f2,?_⟩
 simp[ZD,hi] at hd
 subst hd
 simp only[Rep];exact y
noncomputable def VE:List D→Option (Int×Int)
 | [.int i,.int j,.int (-1)]=>some (i,j)
 |_=>none
theorem Mg{ds:List D}{i j:Int}(h:VE ds=some (i,j)):ds=[.int i,.int j,.int (-1)]:=by
 unfold VE at h;split at h <;> cases h;rfl
noncomputable def Qt(fs:FA):FA:=fun τ=>(fs τ).bind fun ds=>match VE ds with
 | some (i,j)=>if (-(2 ^ 62)≤i∧i<2 ^ 62)∧-(2 ^ 62)≤j∧j<2 ^ 62 then .ok (ZD i (i-j).toNat) else .no
 |none=>.no
theorem Uh{a b c:Expr}{p:Pos}(hg:Gl X "range")(hm:X.mg "range" = none)(ha:PDA X [a,b,c] fs)(hs:starEach [a,b,c] X.env=[(false,eval a X.env),(false,eval b X.env),(false,eval c X.env)]:=by rfl)(hs2:starEach [b,c] X.env=[(false,eval b X.env),(false,eval c X.env)]:=by rfl) :
  PDI X tg (.Call (.Name "range" p) [a,b,c] [] pos) (Qt fs):=
 PI.imp (J6 hg hm ha hs hs2) fun σ H R z_=>by
  obtain⟨F,τ,Rv,h⟩:=z_
  refine tAs.of Rv h.bind fun ds vs F1 H1 g x R1 r=>?_
  cases q1:VE ds with
  |none=>rw[q1] at g;exact g.elim
  |some ij=>
   obtain⟨i,j⟩:=ij
   rw[q1] at g
   have e:=Mg q1
   subst e
   simp only[Reps] at r
   obtain⟨v,r1,e1,q,w,r2,e2,q',u,r3,e3,q'',e4⟩:=r
   simp only[Rep] at q q' q'';subst q q' q'' e4 e3 e2 e1
   obtain⟨z,g⟩:=yL g
   exact⟨i,j,rfl,⟨z.1.1,z.1.2,z.2.1,z.2.2⟩,g _ F1 H1 x Li⟩
noncomputable def MtD(X:Cx)(id:String)(g:D→List D→Rs D):Prop:=∃r,MtR X id r∧∀F H v vs d ds Q,Same F H→Rep X.K F d v→Reps X.K F ds vs→Ok X (g d ds) (Ev X.K F H Q)→r v vs H Q
noncomputable def Xq(T:String):D→Bool
 |.str _=>T = "str"
 |.int _=>T = "int"
 |.lst _=>T = "list"
 |.scr _=>T = "list"
 |_=>false
noncomputable def Y5(T:String)(g:D→List D→Rs D)(fo:FE):FE:=fun τ=>(fo τ).bind fun d=>if Xq T d=true then g d [] else .no
theorem za2{F H:Hp}{d:D}{v:V}{T:String}(fh:Same F H)(r:Rep X.K F d v)(h:Xq T d=true):tyV X.K T v H:=by
 cases d with
 |str x=>simp only[Rep] at r;subst r;show T = "str"; simpa[Xq] using h
 |int x=>simp only[Rep] at r;subst r;show T = "int"; simpa[Xq] using h
 |lst ds=>simp only[Rep] at r;obtain⟨a,vs,rfl,e,t⟩:=r;exact .inl ⟨by simpa[Xq] using h,vs,SqL.of (fh _ _ e)⟩
 |scr ds=>simp only[Rep] at r;obtain⟨a,rfl,e⟩:=r;exact .inl ⟨by simpa[Xq] using h,_,fh.seq e⟩
 |_=>simp[Xq] at h
theorem ok_if{X:Cx}{α:Type}{c:Prop}[Decidable c]{r:Rs α}{P:α→Prop}(h:Ok X (if c then r else .no) P):c∧Ok X r P:=by
 by_cases z:c
 ·rw[if_pos z] at h;exact⟨z,h⟩
 ·rw[if_neg z] at h;exact h.elim
theorem Jc{T id:String}{name:Str}{o:Expr}{apos cpos:Pos}{fo:FE}{g:D→List D→Rs D}(pa:PlainAttrs T)(slot:Slot T name id)(hty:typeOf (.builtin id)=pure (.type "method_descriptor"))(hm:MtD X id g)(ho:PDE X o fo)
  (hbase:attributeBase o name X.env (eval o X.env)=eval o X.env:=by rfl) (hline:(apos.endLine==cpos.line)=true:=by rfl):PDE X (.Call (.Attribute o name apos) [] [] cpos) (Y5 T g fo):=by
 obtain⟨r,h1,h2⟩:=hm
 exact PE.imp (zd0 pa slot hty h1 ho hbase hline) fun σ H Q z_=>by
  obtain⟨Fz,τ,R,h⟩:=z_
  refine tE.of R h.bind fun d v F1 H1 q x R1 rr=>?_
  obtain⟨z,q⟩:=ok_if q
  exact⟨za2 R1.fh rr z,h2 F1 H1 v [] d [] Q R1.fh rr Reps.nil (q.imp fun d e=>e.ext x)⟩
noncomputable def upD:D→List D→Rs D
 |.str x,[]=>if x.length≤5000000 then .ok (.str (Txt.upper x)) else .no
 |_,_=>.no
noncomputable def loD:D→List D→Rs D
 |.str x,[]=>if x.length≤5000000 then .ok (.str (Txt.lower x)) else .no
 |_,_=>.no
theorem mt_up:MtR X "str.upper" (fun v vs H Q=>∃x,v=.str x∧vs=[]∧x.length≤5000000∧Q (.str (Txt.upper x)) H):=by
 intro pins s σ H v vs u us Q I r rs h
 obtain⟨x,rfl,rfl,hx,q⟩:=h
 obtain⟨t,rfl⟩:=r
 cases rs
 exact SC.upper (fit_upper (by lia)) ⟨.str (Txt.upper x),H,I.tok _,⟨_,rfl⟩,q⟩
theorem mt_lo:MtR X "str.lower" (fun v vs H Q=>∃x,v=.str x∧vs=[]∧x.length≤5000000∧Q (.str (Txt.lower x)) H):=by
 intro pins s σ H v vs u us Q I r rs h
 obtain⟨x,rfl,rfl,hx,q⟩:=h
 obtain⟨t,rfl⟩:=r
 cases rs
 exact SC.lower (fit_lower (by lia)) ⟨.str (Txt.lower x),H,I.tok _,⟨_,rfl⟩,q⟩
theorem md_up:MtD X "str.upper" upD:=⟨_,mt_up,fun F H v vs d ds Q fh r rs h=>by
 cases d with
 |str x=>
  cases ds with
  |nil=>
   simp only[Rep] at r;subst r
   simp only[Reps] at rs;subst rs
   obtain⟨z,h⟩:=yL h
   exact⟨x,rfl,rfl,z,h _ F H (Ext.refl fh) (by simp only[Rep])⟩
  |cons a b=>exact h.elim
 |_=>cases ds <;> exact h.elim⟩
theorem md_lo:MtD X "str.lower" loD:=⟨_,mt_lo,fun F H v vs d ds Q fh r rs h=>by
 cases d with
 |str x=>
  cases ds with
  |nil=>
   simp only[Rep] at r;subst r
   simp only[Reps] at rs;subst rs
   obtain⟨z,h⟩:=yL h
   exact⟨x,rfl,rfl,z,h _ F H (Ext.refl fh) (by simp only[Rep])⟩
  |cons a b=>exact h.elim
 |_=>cases ds <;> exact h.elim⟩
theorem XJ{o:Expr}{apos cpos:Pos}{fo:FE}(ho:PDE X o fo)(hbase:attributeBase o "upper" X.env (eval o X.env)=eval o X.env:=by rfl)(hline:(apos.endLine==cpos.line)=true:=by rfl):PDE X (.Call (.Attribute o "upper" apos) [] [] cpos) (Y5 "str" upD fo):=
 Jc F.plainAttrs_str F.slot_str_upper F.type_str_upper md_up ho hbase hline
theorem XM{o:Expr}{apos cpos:Pos}{fo:FE}(ho:PDE X o fo)(hbase:attributeBase o "lower" X.env (eval o X.env)=eval o X.env:=by rfl)(hline:(apos.endLine==cpos.line)=true:=by rfl):PDE X (.Call (.Attribute o "lower" apos) [] [] cpos) (Y5 "str" loD fo):=
 Jc F.plainAttrs_str F.slot_str_lower F.type_str_lower md_lo ho hbase hline
end
section
variable{X:Cx}{pos:Pos}{e tg:Expr}{es:List Expr}{fe:FE}{fs:FA}
end
section
variable{X:Cx}{pos:Pos}{e tg:Expr}{es:List Expr}{fe:FE}{fs:FA}
noncomputable def rSlS:V→Option Int→Option Int→Hp→VK→Prop:=fun x lo hi H Q=>∃z,x=.str z∧z.length≤sizeLine∧Q (.str (Txt.slice z lo hi)) H
theorem sl_str:SlR X rSlS:=by
 intro pins s σ H x v vl vu lo hi sl Q I rx hs pl pu h
 obtain⟨z,rfl,hz,q⟩:=h
 obtain⟨t,rfl⟩:=rx
 refine⟨"str", _,F.slot_str_getitem.lookup,typeIs_str _ _ _,?_⟩
 obtain⟨o,e,c,d⟩:=hs
 have fin:∀t' k,EP X pins σ Q (.str (Txt.slice z lo hi) t') { s with toks:=k }:=fun t' k=>⟨.str _,H,I.tok _,⟨_,rfl⟩,q⟩
 have hl:=le_trans (Txt.slice_le z lo hi) hz
 cases pl with
 |none=>
  cases pu with
  |none=>exact wpAny_getItem_str_slice (l:=none) (u:=none) (st:=none) ⟨o,e,c,d⟩ rfl (post_val_or_str ⟨hl,fin⟩)
  |int j uj=>exact wpAny_getItem_str_slice (l:=none) (u:=some (j,uj)) (st:=none) ⟨o,e,c,d⟩ rfl (post_val_or_str ⟨hl,fin⟩)
 |int i ui=>
  cases pu with
  |none=>exact wpAny_getItem_str_slice (l:=some (i,ui)) (u:=none) (st:=none) ⟨o,e,c,d⟩ rfl (post_val_or_str ⟨hl,fin⟩)
  |int j uj=>exact wpAny_getItem_str_slice (l:=some (i,ui)) (u:=some (j,uj)) (st:=none) ⟨o,e,c,d⟩ rfl (post_val_or_str ⟨hl,fin⟩)
noncomputable def cutD(xs:List D)(lo hi:Option Int):List D:=(xs.drop (HT.sIx xs.length 0 lo)).take (HT.sIx xs.length xs.length hi-HT.sIx xs.length 0 lo)
noncomputable def slD(d:D)(lo hi:Option Int):Rs D:=match d with
 |.str x=>if x.length≤sizeLine then .ok (.str (Txt.slice x lo hi)) else .no
 |.lst ds=>.ok (.lst (cutD ds lo hi))
 |_=>.no
noncomputable abbrev FO:=DS→Rs (Option Int)
noncomputable def vQ:FO:=fun _=>.ok none
noncomputable def wn(fe:FE):FO:=fun τ=>(fe τ).bind fun d=>match d with
 |.int i=>.ok (some i)
 |_=>.no
noncomputable def tOs(X:Cx)(f:FO):TO:=fun σ H Q=>∃F τ,RV X.K F τ σ H∧Ok X (f τ) fun o=>∀F' H',Ext F H F' H'→Q o H'
noncomputable def PDO(X:Cx)(e:Option Expr)(f:FO):Prop:=PO X e (tOs X f)
theorem PO.imp{e:Option Expr}{t t':TO}(h:PO X e t)(f:∀σ H Q,t' σ H Q→t σ H Q):PO X e t':=fun pins s σ H Q I q=>h pins s σ H Q I (f _ _ _ q)
theorem Ys:PDO X none vQ:=PO.imp Ts fun σ H Q z_=>by obtain⟨F,τ,R,h⟩:=z_;exact h F H (Ext.refl R.fh)
theorem uC(h:PDE X e fe):PDO X (some e) (wn fe):=PO.imp (Tr h) fun σ H Q z_=>by
 obtain⟨F,τ,R,h⟩:=z_
 refine tE.of R h.bind fun d v F1 H1 g x R1 r=>?_
 cases d with
 |int i=>simp only[Rep] at r;exact⟨i,r,g F1 H1 x⟩
 |_=>exact g.elim
noncomputable def eSl(fe:FE)(fl fh:FO):FE:=fun τ=>(fe τ).bind fun d=>(fl τ).bind fun l=>(fh τ).bind fun u=>slD d l u
theorem Wu{lo hi:Option Expr}{fl fh:FO}{p2:Pos}(he:PDE X e fe)(hl:PDO X lo fl)(hu:PDO X hi fh):PDE X (.Subscript e (.Slice lo hi none p2) pos) (eSl fe fl fh):=
 PE.imp (Gj (sl_str.or M3) he hl hu) fun σ H Q z_=>by
  obtain⟨F,τ,R,h⟩:=z_
  refine tE.of R h.bind fun d v F1 H1 g x R1 r=>?_
  refine⟨F1,τ,R1,g.bind.imp fun l gl F2 H2 x2=>⟨F2,τ,R1.ext x2,gl.bind.imp fun u gu F3 H3 x3=>?_⟩⟩
  have f3:=x3.fh
  have x13:=x.trans (x2.trans x3)
  cases d with
  |str z=>
   simp only[Rep] at r
   obtain⟨zz,gu⟩:=yL gu
   exact .inl ⟨z,r,zz,gu _ F3 H3 x13 (by simp only[Rep])⟩
  |lst ds=>
   simp only[Rep] at r;obtain⟨a,vs,rfl,e1,t⟩:=r
   have gu:Ev X.K F H Q (.lst (cutD ds l u)):=gu
   refine .inr ⟨a,vs,rfl,SqL.of (f3 _ _ (x3.ff _ _ (x2.ff _ _ e1))),fun p hp=>gu _ _ _ (x13.trans (Ext.new f3 hp)) ?_⟩
   simp only[Rep]
   refine⟨p,_,rfl,zn,?_⟩
   have t3:Reps X.K F3 (cutD ds l u) (QD vs l u):=by
    unfold cutD QD
    rw[← t.length]
    exact((t.mono (x2.ff.trans x3.ff)).drop _).take _
   exact t3.mono (z7 (zH f3 hp))
  |_=>exact gu.elim
theorem Gy{x:Str}{v:V}{u:Value}{d:D}(hg:Gl X x)(hm:X.mg x=some u)(r:RelV v u)(rd:∀F,Rep X.K F d v)(hd:(x==("__debug__" : Str))=false:=by decide):PDE X (.Name x pos) (eC d):=Vg (Tw hg hm r hd) rd
theorem v4{x:Str}{y:Str}{t:Tok}(hg:Gl X x)(hm:X.mg x=some (.str y t))(hd:(x==("__debug__" : Str))=false:=by decide):PDE X (.Name x pos) (eC (.str y)):=Gy (v:=.str y) hg hm ⟨t,rfl⟩ (fun _=>by simp only[Rep]) hd
theorem vt{x:Str}{y:Int}{t:Tok}(hg:Gl X x)(hm:X.mg x=some (.int y t))(hd:(x==("__debug__" : Str))=false:=by decide):PDE X (.Name x pos) (eC (.int y)):=Gy (v:=.int y) hg hm ⟨t,rfl⟩ (fun _=>by simp only[Rep]) hd
end
section
variable{X:Cx}{pos:Pos}{e tg:Expr}{es:List Expr}{fe:FE}{fs:FA}
noncomputable def iAnyT(K:Frag)(tl:TE):TI:=fun σ H R=>tl σ H fun x H1=>(∃a,x=.ref a∧(∃xs,SqL K H1 a xs)∧R (Itl K a) H1)∨(∃a,x=.ref a∧(∃xs,SqT K H1 a xs)∧R (Itt K a) H1)∨∃z,x=.str z∧R (Its z) H1
theorem zc0{l:Expr}{tl:TE}(hl:PE X l tl):PI X tg l (iAnyT X.K tl):=by
 intro pins s σ H R I h
 refine thn (hl pins s σ H _ I h) fun v s1 z_=>?_
 obtain⟨x,H1,I1,r1,q1⟩:=z_
 rcases q1 with ⟨a,e,⟨xs,hq⟩,q⟩|⟨a,e,⟨xs,hq⟩,q⟩|⟨z,e,q⟩
 ·subst e
  cases r1
  obtain⟨its,rv,p,hz⟩:=I1.list hq
  refine wpAny_pyIter_list p.isList ?_
  refine⟨s1.heap.objs.size,[s1.heap.objs.size],_,_,H1,rfl,I1.kept (t':=s1.toks) fun b o e=>get?_push_of_some _ e,Xz a _,⟨_,Heap.get?_push_size _ rfl,rfl,rfl⟩,fun b hb=>?_,q⟩
  have e:b=s1.heap.objs.size:=by simpa using hb
  subst e
  exact I1.fpOk (le_refl _) (I1.hok.fresh (le_refl _))
 ·subst e
  cases r1
  obtain⟨its,rv,p,hz⟩:=I1.tuple hq
  refine wpAny_pyIter_tuple (show s1.heap.IsTuple a its.toArray from p) ?_
  refine⟨s1.heap.objs.size,[s1.heap.objs.size],_,_,H1,rfl,I1.kept (t':=s1.toks) fun b o e=>get?_push_of_some _ e,VX a _,⟨_,Heap.get?_push_size _ rfl,rfl,rfl⟩,fun b hb=>?_,q⟩
  have e:b=s1.heap.objs.size:=by simpa using hb
  subst e
  exact I1.fpOk (le_refl _) (I1.hok.fresh (le_refl _))
 ·subst e
  obtain⟨t,rfl⟩:=r1
  have fin:∀(ty:String),(ty = "str_ascii_iterator" ∨ ty = "str_iterator")→PIE X pins σ tg R (.ref s1.heap.objs.size) { s1 with heap:=s1.heap.push { cls:=.type ty,data:=.fields #[.str z t,.int 0 0] } }:=fun ty hty=>by
   refine⟨s1.heap.objs.size,[s1.heap.objs.size],_,_,H1,rfl,I1.kept (t':=s1.toks) fun b o e=>get?_push_of_some _ e,QP hty,⟨_,Heap.get?_push_size _ rfl,rfl,rfl⟩,fun b hb=>?_,q⟩
   have e:b=s1.heap.objs.size:=by simpa using hb
   subst e
   exact I1.fpOk (le_refl _) (I1.hok.fresh (le_refl _))
  cases ha:z.cps.all (· < 128)
  ·exact wpAny_pyIter_wide ha (fin _ (.inr rfl))
  ·exact wpAny_pyIter_ascii ha (fin _ (.inl rfl))
noncomputable def Jw:D→Rs (List D)
 |.lst ds=>.ok ds
 |.scr ns=>.ok (ns.map .int)
 |.tup ds=>.ok ds
 |.str x=>.ok (uz x)
 |_=>.no
noncomputable def wb(fe:FE):FA:=fun τ=>(fe τ).bind Jw
theorem wE(he:PDE X e fe):PDI X tg e (wb fe):=
 PI.imp (zc0 he) fun σ H R z_=>by
  obtain⟨F,τ,Rv,h⟩:=z_
  refine tE.of Rv h.bind fun d v F1 H1 g x R1 r=>?_
  cases d with
  |lst ds=>
   simp only[Rep] at r;obtain⟨a,vs,rfl,q,t⟩:=r
   exact .inl ⟨a,rfl,⟨vs,SqL.of (R1.fh _ _ q)⟩,g _ F1 H1 x (Jx (SqL.of q) t)⟩
  |scr ns=>
   simp only[Rep] at r;obtain⟨a,rfl,q⟩:=r
   exact .inl ⟨a,rfl,⟨_,R1.fh.seq q⟩,g _ F1 H1 x (Jx q (Reps.ints ns))⟩
  |tup ds=>
   simp only[Rep] at r;obtain⟨a,vs,rfl,q,t⟩:=r
   exact .inr (.inl ⟨a,rfl,⟨vs,Same.seqT R1.fh q⟩,g _ F1 H1 x (zg4 q t)⟩)
  |str z=>simp only[Rep] at r;exact .inr (.inr ⟨z,r,g _ F1 H1 x zg5⟩)
  |_=>exact g.elim
end
noncomputable def DefOk(P:Program)(w:World)(K:Frag)(mg:Str→Option Value)(base:Heap)(x:Str)(k n:Nat)(ps:List Str)(g:List D→Rs D):Prop:=
 ∃f fd,FnOk P w K mg base CX0 k f fd ps (spD K n g)∧Binds K fd ps []∧keepIn K (.ref f)=true∧mg x=some (.ref f)
structure zY(K:Frag)(mg:Str→Option Value)(x:Str)(st:Stmt)(f:Addr)(fd:FuncData):Prop where
 fn:Fun K x x st f fd
 at_:mg x=some (.ref f)
section
variable{P:Program}{w:World}{K:Frag}{mg:Str→Option Value}{base:Heap}
theorem DefOk.mk{x:Str}{st:Stmt}{f:Addr}{fd:FuncData}{N ps:List Str}{k n:Nat}{fb:FS}{g:List D→Rs D}(D:zY K mg x st f fd)(S:zJ N ps (zh st))(hn:ps.length=n)
  (hb:∀(kV doc pm:Value) (an:Option Addr) (cdv ct:Value) (us:List Value),us.length=ps.length→bindArgs (fnOf x x (zI st) (zB st) (zh st) .none kV doc pm an cdv ct) ⟨us,[]⟩=pure (ps.zip us))
  (hbody:∀(cdv:Value) (A:Around) (outer:List Env) (s:Shared) (H:Hp) (E:XK),Room k (A.deeper (envOfC x (zh st) s.heap.objs.size f cdv)) →
   uk (j5 CX0 P w K mg base N x (zh st) f cdv A outer s H E).nox (zB st) fb)
  (hg:∀ds d,ds.length=n→g ds=.ok d→xG N.length fb ds=.ok d):DefOk P w K mg base x (k+1) n ps g:=
 ⟨f,fd,FnD.to (fnD D.fn S hn hbody) hg,D.fn.binds hb,D.fn.kp,D.at_⟩
end
section
variable{X:Cx}{pos:Pos}{e tg:Expr}{es:List Expr}{fe:FE}{fs:FA}
theorem zG{k n:Nat}{ps:List Str}{g:List D→Rs D}{x:Str}{p:Pos}(D:DefOk X.prog X.w X.K X.mg X.base x k n ps g)(hr:Room k X.A)(ha:PDA X (e::es) fs)(hfs:∀τ ds,fs τ=.ok ds→ds.length=(e::es).length)(hn:(e::es).length=n:=by rfl)(hg:Gl X x:=by rfl)(hdb:(x==("__debug__" : Str))=false:=by decide)
  (he:starEach (e::es) X.env=(false,eval e X.env)::starEach es X.env:=by rfl) (hpl:(backTo pos (starEach es X.env)).any (·.1)=false:=by rfl):PDE X (.Call (.Name x p) (e::es) [] pos) (zr g fs):=by
 obtain⟨f,fd,F,hb,hk,hm⟩:=D
 exact Gz F hr hg hm hk hb ha hn hfs hdb he hpl
end
theorem wD{k:Nat}{A:Around}(r:Room k A):A.units+128<cLine:=by have:=r.un;lia
section
variable{X:Cx}{pos:Pos}{e a b:Expr}{fe fa fb:FE}
end
noncomputable def US(K:Frag):Sp:=fun vs H Q _=>∃(a:Addr) (ns:List Int) (F:Hp),vs=[.ref a]∧Same F H∧TbT F H∧SqL K F a (ns.map V.int)∧ns.length≤63∧∀H',Q (.bl true) H'
theorem zf5{P:Program}{w:World}{K:Frag}{mg:Str→Option Value}{base:Heap}{k:Nat}{g:List D→Rs D}{p:Str}{f:Addr}{fd:FuncData}(F:FnOk P w K mg base CX0 k f fd [p] (spD K 1 g))(h:∀ns:List Int,ns.length≤63→g [.scr ns]=.ok (.bl true)) :
  FnOk P w K mg base CX0 k f fd [p] (US K):=by
 refine F.imp fun vs H Q E z_=>?_
 obtain⟨a,ns,Fz,e,fh,tt,hS,h63,q⟩:=z_
 subst e
 refine⟨rfl,[.scr ns],Fz,fh,tt,Reps.cons (by simp only[Rep];exact⟨a,rfl,hS⟩) Reps.nil,?_⟩
 rw[h ns h63]
 intro v F' H' _ r
 simp only[Rep] at r
 subst r
 exact q H'
section
variable{X:Cx}{pos:Pos}{e tg:Expr}{es:List Expr}{fe:FE}{fs:FA}
theorem Tf(x:Str)(u:Tok):Txt.sliceBy x none none (-1,u)=⟨x.cps.toList.reverse.toArray⟩:=by
 have h:=step_rev_list x u
 have e:((List.range x.length).map fun k=>x.cps.getD (x.length-1-k) 0)=x.cps.toList.reverse:=by
  have hl:x.length=x.cps.toList.length:=by simp[Str.length]
  apply List.ext_getElem
  ·simp[hl]
  ·intro i h1 h2
   have hi:i<x.cps.size:=by simpa[Str.length] using h1
   simp only[List.getElem_map,List.getElem_range,List.getElem_reverse]
   rw[hl]
   simp only[length_toList,getElem_toList,Array.getD]
   rw[dif_pos (by lia)]
   rfl
 rw[e] at h
 generalize Txt.sliceBy x none none (-1,u)=y at h
 obtain⟨c⟩:=y
 congr 1
 rw[← h]
noncomputable def Q8:D→Rs D
 |.str x=>if x.length≤sizeLine then .ok (.str ⟨x.cps.toList.reverse.toArray⟩) else .no
 |.lst ds=>.ok (.lst ds.reverse)
 |_=>.no
noncomputable def My(fe:FE):FE:=fun τ=>(fe τ).bind Q8
theorem TK{st:Expr}{p2:Pos}(he:PDE X e fe)(hs:PDE X st (wP (eC (.int 1)))):PDE X (.Subscript e (.Slice none none (some st) p2) pos) (My fe):=by
 rintro pins s σ H Q I ⟨F,τ,R,h⟩
 refine Subscript_ (thn (he pins s σ H _ I (tE.of R h.bind fun d v F1 H1 g x R1 r=>(⟨d,F1,g,x,R1,r⟩:∃d F1,Ok X (Q8 d) (Ev X.K F H Q)∧Ext F H F1 H1∧RV X.K F1 τ σ H1∧Rep X.K F1 d v))) fun v s1 z_=>?_)
 obtain⟨x,H1,I1,r1,d,F1,g,x1,R1,r⟩:=z_
 refine wpAny_Slice ?_
 rw[evalPart_none]
 refine wpAny_pure (wpAny_pure ?_)
 rw[evalPart_some]
 refine thn (hs pins s1 σ H1 (fun w H2=>w=.int (-1)∧∃F2,Ext F1 H1 F2 H2) I1 ⟨F1,τ,R1,fun w F2 H2 x2 r2=>⟨by simpa only[Rep] using r2,F2,x2⟩⟩) fun u s2 z_=>?_
 obtain⟨y,H2,I2,r2,ey,F2,x2⟩:=z_
 subst ey
 obtain⟨tk,rfl⟩:=r2
 have I4:Inv X pins σ H2 { s2 with heap:=s2.heap.push { cls:=.type "slice", data:=.fields #[.none,.none,.int (-1) tk] } }:=I2.kept (t':=s2.toks) fun b ob q=>get?_push_of_some _ q
 have x12:=x1.trans x2
 have r:=r.mono x2.ff
 show wpAny (model X.prog X.w) X.A (subscriptTail e (.Slice none none (some st) p2) v (.ref s2.heap.objs.size)) (EP X pins σ Q) X.xe { s2 with heap:=s2.heap.push { cls:=.type "slice", data:=.fields #[.none,.none,.int (-1) tk] } }
 cases d with
 |str z=>
  simp only[Rep] at r;subst r
  obtain⟨t,rfl⟩:=r1
  obtain⟨hz,g⟩:=yL g
  refine tail_any (ops:=[.str z t,.ref s2.heap.objs.size]) (typeIs_str _ _ _) PySem.F.slot_str_getitem.lookup (wpAny_getItem_str_slice (l:=none) (u:=none) (st:=some (-1,tk)) ⟨_,Heap.get?_push_size _ rfl,rfl,rfl⟩ rfl (post_val_or_str ⟨le_trans (Txt.sliceBy_le z none none (-1,tk) (by show(-1:Int)≠0;decide)) hz,fun t' k=>⟨.str (Txt.sliceBy z none none (-1,tk)),H2,I4.tok _,⟨_,rfl⟩,?_⟩⟩)) (by with_unfolding_all rfl)
  rw[Tf]
  exact g _ F2 H2 x12 (by simp only[Rep])
 |lst ds=>
  simp only[Rep] at r;obtain⟨a,vs,rfl,e1,t⟩:=r
  cases r1
  obtain⟨its,rr,ht,hz⟩:=I4.list (SqL.of (K:=X.K) (x2.fh _ _ e1))
  have g:Ev X.K F H Q (.lst ds.reverse):=g
  refine tail_any (ops:=[.ref a,.ref s2.heap.objs.size]) ht.isList.typeIs slot_list_getitem.lookup (wpAny_getItem_list_slice ht.isList (Heap.IsSliceOf.new ..) .none .none (.int (-1) tk) (by simp) ?_ (by rw[size_toArray,← rr.length];exact hz)) (by with_unfolding_all rfl)
  rw[PySem.W.krv_pick]
  refine⟨.ref _,_,I4.laid (t':=s2.toks) (o:=.lst vs.reverse) (fun b ob q=>get?_push_of_some _ q) (le_refl _) ?_,rfl,g _ _ _ (x12.trans (Ext.new x2.fh (I4.hok.fresh (le_refl _)))) ?_⟩
  ·exact⟨by rw[List.length_reverse];exact hz,its.reverse,0,rr.reverse,Heap.get?_push_size _ rfl⟩
  ·simp only[Rep]
   exact⟨_,_,rfl,zn,(t.reverse).mono (z7 (zH x2.fh (I4.hok.fresh (le_refl _))))⟩
 |_=>exact g.elim
theorem Ga{K:Frag}{F:Hp}(lo:Int)(n:Nat):Reps K F (jb lo n) ((List.range n).map fun (k:Nat)=>V.int (lo+k)):=by
 unfold jb
 generalize List.range n=l
 induction l with
 |nil=>exact Reps.nil
 |cons a r ih=>exact Reps.cons (by simp only[Rep]) ih
theorem QM{lo:Int}{acc:Array Value}{n:Nat}(h:ItemsOf (fun i v=>∃t,v=Value.int (lo+i*1) t) acc n):Vals ((List.range n).map fun (k:Nat)=>V.int (lo+k)) acc.toList:=by
 obtain⟨hn,hi⟩:=h
 have key:∀(l:List Value) (j:Nat),(∀k v,l[k]?=some v→∃t,v=Value.int (lo+((j+k:Nat):Int)) t)→Vals ((List.range' j l.length).map fun (k:Nat)=>V.int (lo+k)) l:=fun l=>by
  induction l with
  |nil=>intro j _;exact .nil
  |cons a r ih=>
   intro j hj
   rw[length_cons,range'_succ,map_cons]
   refine .cons ?_ (ih (j+1) fun k v hv=>?_)
   ·obtain⟨t,rfl⟩:=hj 0 a rfl
    exact⟨t,by simp⟩
   ·obtain⟨t,e⟩:=hj (k+1) v (by simpa using hv)
    exact⟨t,by rw[e];congr 2;lia⟩
 have:=key acc.toList 0 fun k v hv=>by
  obtain⟨t,e⟩:=hi k v (by simpa using hv)
  exact⟨t,by rw[e];simp⟩
 rw[length_toList,hn,← range_eq_range'] at this
 exact this
noncomputable def uo(fi:FA):FA:=fun τ=>(fi τ).bind fun ds=>if ds.length≤16777216 then .ok ds else .no
theorem G0{pins:List (Addr×Obj)}{σ:St}{F H F1 H1:Hp}{s1:Shared}{Q:VK}{lo hi:Int}{t u v:Tok}{tk:Nat}(hc:X.calm=true)(I1:Inv X pins σ H1 s1)(h1 : -(2 ^ 62)≤lo)(h2:lo<2 ^ 62)(h3 : -(2 ^ 62)≤hi)(h4:hi<2 ^ 62)(hz:(jb lo (hi-lo).toNat).length≤16777216)
  (x:Ext F H F1 H1) (q:∀p vs F' H',Ext F H F' H'→H' p=none→Reps X.K F' (jb lo (hi-lo).toNat) vs→Q (.ref p) (upd H' p (.lst vs))) :
  wpAny (model X.prog X.w) X.A (call (.type "list") [.ref s1.heap.objs.size]) (EP X pins σ Q) X.xe { s1 with heap:=s1.heap.push { cls:=.type "range", data:=.fields #[.int lo t,.int hi u,.int 1 v] },toks:=tk }:=by
 have I2:Inv X pins σ H1 { s1 with heap:=s1.heap.push { cls:=.type "range", data:=.fields #[.int lo t,.int hi u,.int 1 v] },toks:=tk }:=I1.kept fun b o e=>get?_push_of_some _ e
 have hl:(jb lo (hi-lo).toNat).length=(hi-lo).toNat:=by simp[jb]
 rw[hl] at hz
 refine call_list_range (n:=(hi-lo).toNat) (I2.ok.hd hc) (IsRange.new ..) (small_one h1 h2 h3 h4) (by rw[rangeSize_one];split <;> lia) (by lia) fun h' tk' acc' c' hk hS' hacc=>?_
 have rel:=QM hacc
 refine⟨.ref _,_,I2.laid (t':=tk') hk (le_refl _) (o:=.lst ((List.range (hi-lo).toNat).map fun (k:Nat)=>V.int (lo+k))) ⟨by rw[length_map,length_range,sizeLine_eq];exact hz,acc'.toList,c',rel,by simpa using hS'⟩,rfl,q _ _ _ _ x (I2.hok.fresh (le_refl _)) (Ga _ _)⟩
theorem wQ{a:Expr}{p p2 pos2:Pos}(hc:X.calm=true)(hl:Gl X "list")(hml:X.mg "list" = none)(hg:Gl X "range")(hm:X.mg "range" = none)(ha:PDA X [a] fs)(hs:starEach [a] X.env=[(false,eval a X.env)]:=by rfl)
  (he:starEach [.Call (.Name "range" p2) [a] [] pos2] X.env=(false,eval (.Call (.Name "range" p2) [a] [] pos2) X.env)::starEach [] X.env:=by rfl) (hpl:(backTo pos (starEach [] X.env)).any (·.1)=false:=by rfl) :
  PDF X (.Call (.Name "list" p) [.Call (.Name "range" p2) [a] [] pos2] [] pos) (uo (wM fs)):=by
 rintro pins s σ H Q I ⟨F,τ,R,h⟩
 refine wpAny_Call_Name_kw (uI I hl hml PyProof.Rows.boot_list ?_)
 refine PyProof.Rows.callWith_type1 ?_ he hpl
 rw[he]
 show wpAny _ _ (spliced ((false,eval (.Call (.Name "range" p2) [a] [] pos2) X.env)::backTo pos (starEach [] X.env))) _ _ s
 refine Calls.spliced_cons ?_
 have h:=h.bind
 unfold wM at h
 have h:=h.bind
 generalize hG:(fun ds=>Ok X (match Uu ds with|some j=>if -(2 ^ 62)≤j∧j<2 ^ 62 then Rs.ok (jb 0 j.toNat) else Rs.no|none=>Rs.no) fun a=>Ok X (if a.length≤16777216 then Rs.ok a else Rs.no) fun ds=>∀(p:Addr) (vs:List V) (F' H':Hp),Ext F H F' H'→H' p=none→Reps X.K F' ds vs→Q (V.ref p) (upd H' p (HO.lst vs)))=G at h
 refine Call_ (uI I hg hm boot_range (PyProof.Rows.callWith_type1 (thn (ha pos2 pins s σ H (fun vs H1=>∃ds F1,G ds∧Ext F H F1 H1∧RV X.K F1 τ σ H1∧Reps X.K F1 ds vs) I (tAs.of R h fun ds vs F1 H1 g x R1 r=>⟨ds,F1,g,x,R1,r⟩)) fun us s1 z_=>?_) hs rfl))
 obtain⟨vs,H1,I1,r1,ds,F1,g,x,R1,r⟩:=z_
 subst hG
 cases q1:Uu ds with
 |none=>simp only[q1] at g;exact g.elim
 |some j=>
  simp only[q1] at g
  have e:=JA q1
  subst e
  obtain⟨v,rfl,q⟩:=r.one
  simp only[Rep] at q;subst q
  obtain⟨z,g⟩:=yL g
  obtain⟨zl,g⟩:=yL g
  cases r1 with
  |cons ra rr=>
   cases rr
   obtain⟨t,rfl⟩:=ra
   refine call_range_1 ?_
   refine Calls.spliced_nil ?_
   exact G0 hc I1 (by decide) (by decide) z.1 z.2 (by rw[Int.sub_zero];exact zl) x (by rw[Int.sub_zero];exact g)
end
section
open PySem.SeqAt
open PySem.AutoSeq1 (wpAny_loadPart')
open PySem.MeetsSeq PySem.MeetsSeq2 PySem.MeetsSeq3
end
section
variable{X:Cx}
end
section
variable{X:Cx}
end
section
variable{rest:List Expr}{env:Env}
end
noncomputable def Itn(K:Frag)(l:Addr):It:=
 ⟨fun k H=>∃vs,SqL K H l vs∧k<vs.length,
  fun k H y H'=>∃p v,H p=none∧(∀vs,SqL K H l vs→vs[k]?=some v)∧y=.ref p∧H'=upd H p (.tup [.int k,v]),
  fun k H=>∃vs,SqL K H l vs∧vs.length≤k⟩
theorem JU{P:Program}{w:World}{K:Frag}{elts:List Expr}{x1}{pos:Pos}{e it l:Addr}(D:e≠it) :
  Xt P w K (.Tuple elts x1 pos) (Itn K l) [e,it] e (fun k h=>(∃old,IsEnum h e it (k:Nat) old)∧h.IsListIter it l k) where
 mem:=by simp
 obj:=fun k h ⟨⟨old,h1⟩,⟨o5,e5,c5,d5⟩⟩ b hb=>by
  simp at hb
  rcases hb with rfl|rfl
  ·exact⟨_,h1,fun v z=>by cases z⟩
  ·exact⟨_,e5,fun v z=>by rw[d5] at z;cases z⟩
 keep:=fun k h h' ⟨⟨old,h1⟩,h5⟩ hk=>⟨⟨old,hk e (by simp) _ h1⟩,h5.at fun o q=>hk it (by simp) o q⟩
 item:=by
  rintro X hP hw hK hc k pins s σ H E I hf ⟨⟨old,h1⟩,h5⟩ hg
  subst hP hw hK
  obtain⟨vs,hq,l2⟩:=hg
  obtain⟨its,rv,p,hz⟩:=I.list hq
  have hlen:=rv.length
  have hvk:vs[k]?=some vs[k]:=by simp[l2]
  obtain⟨u2,eu,ru⟩:=rv.get hvk
  refine wpAny_pyNext_enum_item (x:=u2) h1 h5 p.isList (by simpa using eu) D fun h' q1 q2 q3 q4 q5=>?_
  have np:s.heap.objs.size≠e:=ne_of_gt (Heap.lt_size h1)
  refine⟨_,rfl,wpAny_letOwnedTupleGo_enum (s:={ s with heap:=h',toks:=s.toks+1 }) q1 fun h'' z1 sb=>?_⟩
  refine⟨.ref s.heap.objs.size,upd H s.heap.objs.size (.tup [.int k,vs[k]]),?_,rfl,⟨_,vs[k],I.hok.fresh (le_refl _),fun ws hw=>by rw[I.list_inj hw hq];exact hvk,rfl,rfl⟩,⟨⟨_,by simpa using z1⟩,?_⟩,fun b hb=>?_⟩
  ·refine(MU (s:=s) (h':=h'') (t':=s.toks+1) (xs:=[.int k,vs[k]]) (ch:=[e,it]) I (fun b o hb q=>?_) hf (le_refl _) ⟨_,sb.extBut _ _ np q3,rfl,_,rfl⟩ (.cons ⟨_,rfl⟩ (.cons ru .nil)) (by show 2≤sizeLine;decide):Inv X pins σ _ { s with heap:=h'',toks:=s.toks+1 })
   simp at hb
   exact sb.extBut _ _ hb.1 (q5 b o hb.1 hb.2 q)
  ·obtain⟨o,q,r⟩:=q2
   exact⟨o,sb.extBut _ _ (Ne.symm D) q,r⟩
  ·have lt:b<s.heap.objs.size:=by
    simp at hb
    rcases hb with rfl|rfl
    ·exact Heap.lt_size h1
    ·obtain⟨o,q,r⟩:=h5
     exact Heap.lt_size q
   rw[zi (ne_of_lt lt)]
   exact(hf b hb).1
 done:=by
  rintro X hP hw hK hc k pins s σ H E I hf ⟨⟨old,h1⟩,h5⟩ hg
  subst hP hw hK
  obtain⟨vs,hq,hend⟩:=hg
  obtain⟨its,rv,p,hz⟩:=I.list hq
  have hlen:=rv.length
  obtain⟨f0,f1,f2,f3,f4,f5⟩:=hf it (by simp)
  exact wpAny_pyNext_enum_end (I.ok.hd hc) h1 h5 p.isList (by simp;lia) fun h' eb=>⟨rfl,I.turned (t':=s.toks) (fun b o hb q=>eb b o hb q) f0 f1 f3 f4 f5⟩
 self:=fun _ _ _ _ _ ⟨⟨_,h1⟩,_⟩ h=>wpAny_pyIter_enum h1 h
section
variable{X:Cx}{pos:Pos}{e a b:Expr}{es:List Expr}{fe fa fb:FE}{fs:FA}
noncomputable def zg9(K:Frag)(ta:TA):TI:=fun σ H R=>ta σ H fun vs H1=>∃l ws,vs=[.ref l]∧SqL K H1 l ws∧R (Itn K l) H1
theorem U7{ta:TA}{p:Pos}{elts:List Expr}{x1}{tpos:Pos}(hg:Gl X "enumerate")(hm:X.mg "enumerate" = none)(ha:PA X [a] ta)(hs:starEach [a] X.env=[(false,eval a X.env)]:=by rfl) :
  PI X (.Tuple elts x1 tpos) (.Call (.Name "enumerate" p) [a] [] pos) (zg9 X.K ta):=by
 intro pins s σ H R I h
 refine Call_ (uI I hg hm boot_enumerate (PyProof.Rows.callWith_type1 (thn (ha pos pins s σ H _ I h) fun us s1 z_=>?_) (by rw[hs];rfl) rfl))
 obtain⟨vs,H1,I1,r1,q1⟩:=z_
 obtain⟨l,ws,e,hq,q⟩:=q1
 subst e
 obtain⟨u1,rfl,ru⟩:=vals1 r1
 cases ru
 obtain⟨its,rr,pp,hz⟩:=I1.list hq
 refine call_enumerate_list pp.isList fun h' g1 g2 g3 g4=>?_
 have I5:Inv X pins σ H1 { s1 with heap:=h' }:=I1.kept (t':=s1.toks) g4
 refine wpAny_pyIter_enum (s:={ s1 with heap:=h' }) g1 ?_
 refine⟨s1.heap.objs.size+1,[s1.heap.objs.size+1,s1.heap.objs.size],_,_,H1,rfl,I5,JU (l:=l) (by show(_:Nat)≠_;lia),⟨⟨_,g1⟩,g2⟩,fun b hb=>?_,q⟩
 have hb':s1.heap.objs.size≤b:=by
  simp at hb
  rcases hb with rfl|rfl <;> (show s1.heap.objs.size≤(_:Nat);lia)
 obtain⟨f0,f1,f2,f3,f4,f5⟩:=I1.fpOk (H':=H1) hb' (I1.hok.fresh hb')
 exact⟨f0,f1,f2,f3,f4,f5⟩
noncomputable def y9(n:Nat):List D→List D
 |[]=>[]
 |d::r=>.tup [.int n,d]::y9 (n+1) r
theorem ud:∀(ds:List D) (n:Nat),(y9 n ds).length=ds.length:=by
 intro l_
 induction l_ with
 |nil=>
  rintro _
  exact rfl
 |cons _ r ih_=>
  rintro n
  simp[y9,ih_]
theorem ue:∀{ds:List D} {n i:Nat} {p:D},(y9 n ds)[i]?=some p→∃d,ds[i]?=some d∧p=.tup [.int ((n+i:Nat):Int),d]
 |[],_,_,_,h=>by simp[y9] at h
 |d::ds,n,0,p,h=>by simp[y9] at h;exact⟨d,rfl,by simpa using h.symm⟩
 |d::ds,n,i+1,p,h=>by
  obtain⟨d',h2,h3⟩:=ue (n:=n+1) (i:=i) (by simpa[y9] using h)
  exact⟨d',by simpa using h2,by rw[h3];congr 3;show((n+1+i:Nat):Int)=_;congr 1;lia⟩
theorem Lj{K:Frag}{F1:Hp}{l:Addr}{ds:List D}{vs:List V}(e:SqL K F1 l vs)(r:Reps K F1 ds vs):VW K (Itn K l) F1 (y9 0 ds):=fun i F H f1 f2=>by
 have q:SqL K H l vs:=(f1.trans f2).seq e
 have hl:=ud ds 0
 have hr:=r.length
 refine⟨fun h=>⟨vs,q,by lia⟩,fun p hp=>?_⟩
 obtain⟨d,h2,rfl⟩:=ue hp
 have l2:i<vs.length:=by have:=(List.getElem?_eq_some_iff.mp h2).1;lia
 refine⟨⟨vs,q,l2⟩,fun y H' yy=>?_⟩
 obtain⟨pa,v,hp,q',rfl,rfl⟩:=yy
 refine⟨upd F pa (.tup [.int i,v]),Ext.new f2 hp,?_⟩
 simp only[Rep]
 refine⟨pa,_,rfl,SqT.of zn,Reps.cons (by simp only[Rep,zero_add]) (Reps.cons ?_ Reps.nil)⟩
 obtain⟨v',hv',rv'⟩:=r.get h2
 have e3:=q' vs q
 rw[hv'] at e3;cases e3
 exact(rv'.mono f1).mono (z7 (zH f2 hp))
noncomputable def T8:List D→Option (List D)
 |[.lst ds]=>some ds
 |_=>none
theorem T7{ds xs:List D}(h:T8 ds=some xs):ds=[.lst xs]:=by
 unfold T8 at h;split at h <;> cases h;rfl
noncomputable def iEn(fs:FA):FA:=fun τ=>(fs τ).bind fun ds=>match T8 ds with
 |some xs=>.ok (y9 0 xs)
 |none=>.no
theorem Gv{p:Pos}{elts:List Expr}{x1}{tpos:Pos}(hg:Gl X "enumerate")(hm:X.mg "enumerate" = none)(ha:PDA X [a] fs)(hs:starEach [a] X.env=[(false,eval a X.env)]:=by rfl) :
  PDI X (.Tuple elts x1 tpos) (.Call (.Name "enumerate" p) [a] [] pos) (iEn fs):=
 PI.imp (U7 hg hm ha hs) fun σ H R z_=>by
  obtain⟨F,τ,Rv,h⟩:=z_
  refine tAs.of Rv h.bind fun ds vs F1 H1 g x R1 r=>?_
  cases q1:T8 ds with
  |none=>rw[q1] at g;exact g.elim
  |some xs=>
   rw[q1] at g
   have e:=T7 q1
   subst e
   obtain⟨v,rfl,r1⟩:=r.one
   simp only[Rep] at r1
   obtain⟨l,ws,rfl,e1,t⟩:=r1
   exact⟨l,ws,rfl,SqL.of (R1.fh _ _ e1),g _ F1 H1 x (Lj (SqL.of e1) t)⟩
end
section
variable{X:Cx}{pins:List (Addr×Obj)}{σ:St}{H:Hp}{s:Shared}{h':Heap}
end
section
variable{X:Cx}{pins:List (Addr×Obj)}{σ:St}{H:Hp}{s:Shared}{h':Heap}{a:Addr}{cls:Value}
variable{M:Model}{A:Around}{E:Value→Shared→Prop}{Q:Unit→Shared→Prop}
theorem np(b:Addr):∀p∈([]:List (Addr×Obj)),p.1≠b:=fun p hp=>nomatch hp
end
section
variable{P:Program}{w:World}{K:Frag}{mg:Str→Option Value}{base:Heap}
end
section
variable{X:Cx}{pos:Pos}{e:Expr}{es:List Expr}{fe:FE}{fs:FA}{st:Stmt}
end
section
variable{P:Program}{w:World}{K:Frag}{mg:Str→Option Value}{base:Heap}
end
section
variable{X:Cx}{pins:List (Addr×Obj)}{σ:St}{H:Hp}{s:Shared}{a:Addr}{cls:Value}
end
section
variable{prog:Program}{w:World}{A:Around}{E:Value→Shared→Prop}{K:Frag}{x C:Addr}
end
section
variable{X:Cx}{pos:Pos}{a b:Expr}{fa:FE}
end
section
variable{X:Cx}{pos:Pos}{e:Expr}{es:List Expr}{fs:FA}{st:Stmt}
end
section
variable{X:Cx}{pos:Pos}{e a b:Expr}{es:List Expr}{fe fa fb:FE}{fs:FA}
end
section
variable{X:Cx}{pos:Pos}{e a b:Expr}{es:List Expr}{fe fa fb:FE}{fs:FA}
end
section
variable{P:Program}{w:World}{K:Frag}{mg:Str→Option Value}{base:Heap}
end
section
variable{X:Cx}{pos:Pos}{e:Expr}{es:List Expr}{fe:FE}{fs:FA}
end
section
variable{X:Cx}{scope:Scope}{N':List Str}
end
section
variable{X:Cx}{scope:Scope}{N':List Str}{tg iter elt:Expr}{ifs:List Expr}{pos:Pos}{wi:TI}{g:TG}{ti:TT}{te:TE}{s0:St→St}
end
section
variable{X:Cx}{scope:Scope}{tn fr:List Str}{idx:List Nat}{tg iter elt:Expr}{ifs:List Expr}{pos:Pos}{fi:FA}{set:FG}{ft:FT}{fe:FE}
end
section
variable{X:Cx}{tg:Expr}
end
section
variable{X:Cx}{pos:Pos}{e tg:Expr}{es:List Expr}{fe:FE}{fs:FA}
end
section
variable{P:Program}{w:World}{K:Frag}{mg:Str→Option Value}{base:Heap}
end
section
variable{X:Cx}{pos:Pos}{e:Expr}{es:List Expr}{fe:FE}{fs:FA}
end
section
variable{X:Cx}{pins:List (Addr×Obj)}{σ:St}{H:Hp}{s:Shared}{a:Addr}{cls:Value}
end
section
variable{X:Cx}{pos:Pos}{e a b:Expr}{es:List Expr}{fe fa fb:FE}{fs:FA}
end
section
variable{X:Cx}{tg:Expr}
end
section
variable{X:Cx}{pos:Pos}{e tg:Expr}{es:List Expr}{fe:FE}{fs:FA}
end
section
variable{X:Cx}{pos:Pos}{e a b:Expr}{es:List Expr}{fe fa fb:FE}{fs:FA}
end
noncomputable def BM(mg:Str→Option Value)(base:Heap):Prop:=∃bm o,mg "__builtins__" = some (.ref bm)∧bm≠builtinsNs∧base.get? bm=some o∧o.cls=.type "module" ∧ o.dict=some builtinsNs∧o.data=.plain
noncomputable def L8(ts:List Addr)(H:Hp):Prop:=∀b,H b=none∨(∃o xs,H b=some (.frz o (.lst xs)))∨(b∈ts∧H b=some (.tbl #[]))
theorem Qn{P:Program}{w:World}{K:Frag}{mg mb:Str→Option Value}{CX:CXT}{k:Nat}{fa a:Addr}{fd:FuncData}{x:Str}{sp:Sp}{s₁:Shared}{vs:List Value}{ns:List Int}{ts:List Addr}
  (KX:K.In s₁.heap) (hns:s₁.heap.Ns mainGlobals mg) (hb:s₁.heap.Ns builtinsNs mb) (hbb:∀x:Str,x ≠ "__name__" → mb x=bootBuiltins x) (hlim:s₁.heap.NoLimit) (hg:s₁.gens = #[])
  (ha:s₁.heap.get? a=some { cls:=.type "list", data:=.seq vs.toArray }) (hi:IntsAre vs ns) (hl:ns.length≤sizeLine) (hr:Room k callerA)
  (tb:∀p∈ts,K.lookup p=none∧s₁.heap.get? p=some (PySem.W.tabObj #[])∧isCodeTable s₁.heap p)
  (hbm:BM mg s₁.heap) (F:∀base:Heap,K.In base→base.Ns mainGlobals mg→BM mg base→FnOk P w K mg base CX k fa fd [x] sp) (hbind:∀(s:Shared) (u:Value),BindsTo s fd ⟨[u],[]⟩ [(x,u)])
  (hsp:∀H F:Hp,L8 ts H→Same F H→(∀p∈ts,F p=none∧H p=some (.tbl #[]))→SqL K F a (ns.map V.int)→sp [.ref a] H (fun v H'=>v=.bl true) fun _ _ _=>False)
  (hCX:∀H e s',CX [] H s₁ (fun _ _ _=>False) e s'→False) :
  codeAny (model P w) callerA (.call (.ref fa) ⟨[.ref a],[]⟩) (fun r s'=>r=.ok (.ret (.bool true))∧OldK s₁.heap s'.heap∧s'.os=s₁.os∧AllBare s'.gens) s₁:=by
 have rv:=vals_ints hi
 have lenV:=hi.length
 have nat:a∉ts:=fun z=>by
  obtain⟨_,e,_⟩:=tb a z
  rw[ha] at e;cases e
 have core:∀H F:Hp,L8 ts H→Same F H→(∀p∈ts,F p=none∧H p=some (.tbl #[]))→SqL K F a (ns.map V.int)→HOk P w H s₁.heap→(∀b,H b≠none→b=a∨b∈ts)→(H a≠none→K.lookup a=none) →
   codeAny (model P w) callerA (.call (.ref fa) ⟨[.ref a],[]⟩) (fun r s'=>r=.ok (.ret (.bool true))∧OldK s₁.heap s'.heap∧s'.os=s₁.os∧AllBare s'.gens) s₁:=by
  intro H Fz hO fh hT hS hok hA hK
  have base_of:∀{b:Addr} {o:Obj},s₁.heap.get? b=some o→H b=none→(Xr s₁.heap H).get? b=some o:=fun e n=>Mj e n
  have noA:∀{b:Addr} {o:Obj} {es:Array DictEntry} {ep:Nat},s₁.heap.get? b=some o→o.data=.dict es ep→H b=none:=fun {b o es ep} e d=>by
   cases q:H b with
   |none=>rfl
   |some u=>
    rcases hA b (by rw[q];simp) with e' | e'
    ·subst e'
     rw[ha] at e;cases e
     have d':Data.seq vs.toArray _=Data.dict es ep:=d
     cases d'
    ·obtain⟨_,e2,_⟩:=tb b e'
     rw[e] at e2;cases e2
     cases d
  have nsK:∀{b:Addr} {m:Str→Option Value},s₁.heap.Ns b m→(Xr s₁.heap H).Ns b m:=fun {b m} ⟨o,es,ep,e,d,r⟩=>⟨o,es,ep,base_of e (noA e d),d,r⟩
  have hKb:K.In (Xr s₁.heap H):=fun b o e=>base_of (KX b o e) (by
   cases q:H b with
   |none=>rfl
   |some u=>
    rcases hA b (by rw[q];simp) with e' | e'
    ·subst e'
     rw[hK (by rw[q];simp)] at e;cases e
    ·rw[(tb b e').1] at e;cases e)
  have hM:Mod K mg (Xr s₁.heap H):=⟨hKb,nsK hns,⟨mb,nsK hb,hbb⟩,let ⟨mc,h1,h2⟩:=hlim;⟨mc,nsK h1,h2⟩⟩
  have e0:Env0 P w K mg (Xr s₁.heap H) callerA [] s₁ H:=⟨rfl,hM,fun b o e=>TY e,Nat.le_of_eq (Qv _ _),trivial,fun b hb=>absurd (show b∈([]:List Addr) from hb) (by simp),hok,.of_eq hg⟩
  have hbb:BM mg (Xr s₁.heap H):=by
   obtain⟨bm,o,b1,b2,b3,b4,b5,b6⟩:=hbm
   refine⟨bm,o,b1,b2,base_of b3 ?_,b4,b5,b6⟩
   cases q:H bm with
   |none=>rfl
   |some u=>
    rcases hA bm (by rw[q];simp) with e' | e'
    ·subst e'
     rw[ha] at b3;cases b3;cases b6
    ·obtain⟨_,e2,_⟩:=tb bm e'
     rw[b3] at e2;cases e2;cases b6
  refine codeAny_mono ((F _ hKb (nsK hns) hbb).run callerA [] s₁ H ⟨[.ref a],[]⟩ [.ref a] [.ref a] _ _ hr e0 (hbind s₁ (.ref a)) (.cons rfl .nil) (hsp H Fz hO fh hT hS)) fun r s' h=>?_
  cases r with
  |error e=>exact(hCX H e s' h).elim
  |ok fl=>
   cases fl with
   |next=>exact False.elim h
   |brk=>exact False.elim h
   |cont=>exact False.elim h
   |ret u=>
    obtain⟨v,H',os,bare,un,hok',r',q'⟩:=h
    subst q'
    obtain rfl:u=Value.bool true:=r'
    have was:∀b o,s₁.heap.get? b=some o→asItWas s₁.heap s'.heap b o:=fun b o e=>by
     cases q:H b with
     |none=>exact .inl (un.keep b o e q (by intro z;exact absurd (show b∈([]:List Addr) from z) (by simp)) (by simp))
     |some u=>
      rcases hO b with z|⟨ob,xs,z⟩|⟨hb,z⟩
      ·rw[q] at z;cases z
      ·have z2:=un.frzs b ob _ z
       obtain⟨e1,_⟩:=hok b _ z
       obtain⟨e2,_⟩:=hok' b _ z2
       rw[e] at e1;cases e1
       exact .inl e2
      ·obtain⟨more,z2⟩:=un.tbls b _ z
       have e2:s'.heap.get? b=some { cls:=.none,data:=.fields (#[]++more) }:=hok' b _ z2
       obtain⟨_,e3,e4⟩:=tb b hb
       rw[e] at e3;cases e3
       exact .inr (.inl ⟨e4,rfl,#[],more,rfl,e2⟩)
    refine⟨rfl,⟨was,fun b o e=>?_⟩,os,bare⟩
    obtain⟨o',e'⟩:=un.there b o e (by simp)
    exact⟨o',e'⟩
 cases hk:K.lookup a with
 |some o=>
  have e:=KX a o hk
  rw[ha] at e
  cases e
  refine core (fun b=>if b∈ts then some (.tbl #[]) else none) (fun _=>none) (fun b=>?_) (fun _ _ z=>nomatch z) (fun p hp=>⟨rfl,if_pos hp⟩) (.inr ⟨_,vs.toArray,_,hk,rfl,rfl,rfl,by rw[size_toArray,lenV];exact hl,by simpa using rv⟩) (fun b u z=>?_) (fun b z=>?_) fun z=>absurd (if_neg nat) z
  ·by_cases h:b∈ts
   ·exact .inr (.inr ⟨h,if_pos h⟩)
   ·exact .inl (if_neg h)
  ·by_cases h:b∈ts
   ·have z':=(if_pos h).symm.trans z
    cases z'
    exact(tb b h).2.1
   ·have z':=(if_neg h).symm.trans z
    cases z'
  ·by_cases h:b∈ts
   ·exact .inr h
   ·exact absurd (if_neg h) z
 |none=>
  refine core (fun b=>if b∈ts then some (.tbl #[]) else if b=a then some (.frz { cls:=.type "list", data:=.seq vs.toArray } (.lst (ns.map V.int))) else none) (fun b=>if b=a then some (.frz { cls:=.type "list", data:=.seq vs.toArray } (.lst (ns.map V.int))) else none) (fun b=>?_) (fun b o z=>?_) (fun p hp=>⟨if_neg (fun z:p=a=>nat (z ▸ hp)),if_pos hp⟩) (.inl (.inr ⟨{ cls:=.type "list", data:=.seq vs.toArray },if_pos rfl⟩)) (fun b u z=>?_) (fun b z=>?_) fun _=>hk
  ·by_cases h:b∈ts
   ·exact .inr (.inr ⟨h,if_pos h⟩)
   ·by_cases hb:b=a
    ·exact .inr (.inl ⟨_,_,(if_neg h).trans (if_pos hb)⟩)
    ·exact .inl ((if_neg h).trans (if_neg hb))
  ·by_cases hb:b=a
   ·have z':=(if_pos hb).symm.trans z
    cases z'
    subst hb
    exact(if_neg nat).trans (if_pos rfl)
   ·have z':=(if_neg hb).symm.trans z
    cases z'
  ·by_cases h:b∈ts
   ·have z':=(if_pos h).symm.trans z
    cases z'
    exact(tb b h).2.1
   ·have z1:=(if_neg h).symm.trans z
    by_cases hb:b=a
    ·have z':=(if_pos hb).symm.trans z1
     cases z'
     subst hb
     exact⟨ha,by rw[length_map];exact hl,vs,_,rv,ha⟩
    ·have z':=(if_neg hb).symm.trans z1
     cases z'
  ·by_cases h:b∈ts
   ·exact .inr h
   ·by_cases hb:b=a
    ·exact .inl hb
    ·exact absurd ((if_neg h).trans (if_neg hb)) z
theorem Vt{K:Frag}{p:Addr}(h:p∉K.map (·.1)):K.lookup p=none:=by
 rw[show K.lookup p=List.lookup p K from rfl,List.lookup_eq_none_iff]
 intro q hq
 simp only[bne_iff_ne,ne_eq,beq_eq_false_iff_ne]
 intro z
 exact h (mem_map.mpr ⟨q,hq,z.symm⟩)
noncomputable def MR(K:Frag):Prop:=∀r∈Tabs.rows,∃c,PySem.W.codeHdIn K c r.1=true
theorem walkM{l:PySem.W.OpenLaw}{q:Program}{loose:List Str}{XP:(Str→Option Value)→Heap→Prop}{d:DefRec}{K:Params→Frag}{k:Nat}{p:Str}{as ts:List Addr}{has:∀P,as=(K P).map (·.1)}(hn:l.most=some 63)(hdf:d.params.defaults=[])(hk:Room k callerA)
  (hts:(Tabs.rows.all fun r=>ts.contains r.1 && !as.contains r.1)=true)
  (F:∀(w:World) (mg:Str→Option Value) (fa:Addr) (h:Heap),(K w.params).In h→h.Ns mainGlobals mg→mg d.name=some (.ref fa)→MR (K w.params) ∧
   ∃fd:FuncData,(∀(s:Shared) (u:Value),BindsTo s fd ⟨[u],[]⟩ [(p,u)])∧∀base:Heap,(K w.params).In base→base.Ns mainGlobals mg→BM mg base→FnOk l.prog w (K w.params) mg base CX0 k fa fd [p] (US (K w.params))) :
  PySem.W.WalkO q loose XP (PySem.W.kmHook K as has ts).says l.row.toRowW d [] (fun f vs=>PySem.call f vs):=by
 refine Att.attach_call hn hdf fun w s₀ s₁ mg mb fa o pm cd doc a vs ns G Y ho hd hcd hmg hobj hints hlen hg=>?_
 have KX:=PySem.W.km_in_of Y
 have hT:=PySem.W.km_tabs_of Y
 obtain⟨tin,fd,hb,hF⟩:=F w mg fa _ KX G.T.g hmg
 refine Qn (ts:=Tabs.rows.map (·.1)) (CX:=CX0) (sp:=US (K w.params)) KX G.T.g G.T.b G.T.builtins G.T.nolimit hg hobj hints (le_trans hlen (by decide)) hk (fun p hp=>?_) ?_ hF hb (fun H Fz hO fh hT hS=>⟨a,ns,Fz,rfl,fh,⟨fun r hr=>?_,fun d b e=>(by rcases hO d with z|⟨_,_,z⟩|⟨_,z⟩ <;> (rw[z] at e;cases e))⟩,hS,hlen,fun _=>rfl⟩) fun H e s' z=>z
 ·obtain⟨r,hr,rfl⟩:=mem_map.mp hp
  have z:=all_eq_true.mp hts r hr
  rw[Bool.and_eq_true] at z
  have hp':=hT r.1 (by simpa using z.1)
  obtain⟨c,hc⟩:=tin r hr
  refine⟨Vt (by rw[← has];simpa using z.2),hp',?_⟩
  exact((PySem.W.codeHd_of_K KX hc).tab hp').isCodeTable
 ·obtain⟨bm,ob,b1,b2,b3,b4,b5,b6⟩:=G.T.bmain
  exact⟨bm,ob,b1,b2,b3,b4,b5,b6⟩
 ·obtain⟨h1,h2⟩:=hT r.1 (mem_map.mpr ⟨r,hr,rfl⟩)
  exact⟨h1,.inl h2⟩
open PySem.W
noncomputable def lxI:List Int→List Int→Bool
 |[],[]=>false
 |[],_::_=>true
 |_::_,[]=>false
 |a::x,b::y=>if a=b then lxI x y else decide (a<b)
theorem jy:∀x:List Int,lxI x x=false:=by
 intro l_
 induction l_ with
 |nil=>
  exact rfl
 |cons a x ih_=>
  rw[lxI,if_pos rfl];exact ih_
theorem Jm:∀x y:List Int,lxI x y=false→lxI y x=false→x=y
 |[],[],_,_=>rfl
 |[],_::_,h,_=>by simp[lxI] at h
 |_::_,[],_,h=>by simp[lxI] at h
 |a::x,b::y,h1,h2=>by
  rw[lxI] at h1 h2
  by_cases e:a=b
  ·subst e
   rw[if_pos rfl] at h1 h2
   rw[Jm x y h1 h2]
  ·rw[if_neg e] at h1
   rw[if_neg (Ne.symm e)] at h2
   simp only[decide_eq_false_iff_not] at h1 h2
   lia
theorem wz:∀x y z:List Int,lxI x y=true→lxI y z=true→lxI x z=true
 |[],[],_,h,_=>by simp[lxI] at h
 |_::_,[],_,h,_=>by simp[lxI] at h
 |_,_::_,[],_,h=>by simp[lxI] at h
 |[],_::_,_::_,_,_=>rfl
 |a::x,b::y,c::z,h1,h2=>by
  rw[lxI] at h1 h2 ⊢
  by_cases e:a=b
  ·subst e
   rw[if_pos rfl] at h1
   by_cases e2:a=c
   ·subst e2;rw[if_pos rfl] at h2 ⊢;exact wz x y z h1 h2
   ·rw[if_neg e2] at h2 ⊢;exact h2
  ·rw[if_neg e] at h1
   simp only[decide_eq_true_eq] at h1
   by_cases e2:b=c
   ·subst e2;rw[if_neg e];simpa using h1
   ·rw[if_neg e2] at h2
    simp only[decide_eq_true_eq] at h2
    rw[if_neg (by lia)];simp only[decide_eq_true_eq];lia
theorem XU{x y:List Int}(h:lxI x y=true):lxI y x=false:=by
 cases q:lxI y x with
 |false=>rfl
 |true=>have:=wz x y x h q;rw[jy] at this;cases this
theorem Z7{x y:List Int}(h:lxI x y=false)(n:x≠y):lxI y x=true:=by
 cases q:lxI y x with
 |true=>rfl
 |false=>exact absurd (Jm x y h q) n
noncomputable def Pw{α:Type}(lt:Nat→Nat→Bool)(n:Nat):KasT α→(α→Prop)→Prop
 |.ret a,G=>G a
 |.ask i j k,G=>i<n∧j<n∧Pw lt n (k (lt i j)) G
section
variable{lt:Nat→Nat→Bool}{n:Nat}
theorem Ge{α:Type}{t u:KasT α}{G:α→Prop}(h:Pw lt n t G):Pw lt n (if true=true then t else u) G:=by rw[if_pos rfl];exact h
theorem zb3{α:Type}{t u:KasT α}{G:α→Prop}(h:Pw lt n u G):Pw lt n (if false=true then t else u) G:=by rw[if_neg (by simp)];exact h
theorem Pw.bind{α β:Type}{f:α→KasT β}{G:β→Prop}:∀(t:KasT α),Pw lt n t (fun a=>Pw lt n (f a) G)→Pw lt n (t.bind f) G
 |.ret _,h=>h
 |.ask i j k,h=>⟨h.1,h.2.1,Pw.bind (k (lt i j)) h.2.2⟩
theorem Pw.mono{α:Type}{G G':α→Prop}(hg:∀a,G a→G' a):∀(t:KasT α),Pw lt n t G→Pw lt n t G'
 |.ret a,h=>hg a h
 |.ask i j k,h=>⟨h.1,h.2.1,Pw.mono hg (k (lt i j)) h.2.2⟩
theorem Pw.wp{α:Type}{cmp:Nat→Nat→(Bool→Shared→Prop)→Shared→Prop}{s:Shared}(hc:∀(i j:Nat) (C:Bool→Shared→Prop),i<n→j<n→C (lt i j) s→cmp i j C s){G:α→Prop}{Q:α→Shared→Prop}(hq:∀a,G a→Q a s) :
  ∀(t:KasT α),Pw lt n t G→t.kasWp cmp Q s
 |.ret a,h=>hq a h
 |.ask i j k,h=>hc i j _ h.1 h.2.1 (Pw.wp hc hq (k (lt i j)) h.2.2)
end
section
variable{n:Nat}{κ:Nat→List Int}{p:Array Nat}
noncomputable abbrev ltK(κ:Nat→List Int)(i j:Nat):Bool:=lxI (κ i) (κ j)
noncomputable abbrev gK(κ:Nat→List Int)(p:Array Nat)(k:Nat):List Int:=κ (p.getD k 0)
noncomputable abbrev PmK(n:Nat)(p:Array Nat):Prop:=p.toList.Perm (List.range n)
theorem xY{p:Array Nat}(k:Nat):p.getD k 0=(p[k]?).getD 0:=by simp
theorem Z3(h:PmK n p):p.size=n:=by have:=h.length_eq;simpa using this
theorem um(h:PmK n p)(hn:0<n)(k:Nat):p.getD k 0<n:=by
 rw[xY]
 cases q:p[k]? with
 |none=>exact hn
 |some v=>
  have hv:v∈p.toList:=by
   have q':p.toList[k]?=some v:=by rw[← q];simp
   exact mem_of_getElem? q'
  have:=h.mem_iff.mp hv
  simpa using this
theorem zb8(h:PmK n p){i j:Nat}(hi:i<n)(hj:j<n)(hij:i≠j):p.getD i 0≠p.getD j 0:=by
 have nd:p.toList.Nodup:=h.symm.nodup List.nodup_range
 have sz:=Z3 h
 have key:∀a b:Nat,a<b→b<n→p.getD a 0≠p.getD b 0:=fun a b hab hb=>by
  have ha':a<p.toList.length:=by simp[sz];lia
  have hb':b<p.toList.length:=by simp[sz];lia
  have:=pairwise_iff_getElem.mp nd a b ha' hb' hab
  rw[xY,xY]
  have ea:p[a]?=some p.toList[a]:=by rw[getElem_toList];exact Array.getElem?_eq_getElem _
  have eb:p[b]?=some p.toList[b]:=by rw[getElem_toList];exact Array.getElem?_eq_getElem _
  rw[ea,eb]
  exact this
 rcases lt_or_ge i j with z|z
 ·exact key i j z hj
 ·exact(key j i (by lia) hi).symm
noncomputable def Srt(κ:Nat→List Int)(p:Array Nat)(a:Nat):Prop:=∀i j,i<j→j<a→lxI (gK κ p i) (gK κ p j)=true
noncomputable def Dsc(κ:Nat→List Int)(p:Array Nat)(a:Nat):Prop:=∀i j,i<j→j<a→lxI (gK κ p j) (gK κ p i)=true
variable(inj:∀i j,i<n→j<n→κ i=κ j→i=j)
include inj
theorem zh2(h:PmK n p){i j:Nat}(hi:i<n)(hj:j<n)(hij:i≠j):gK κ p i≠gK κ p j:=fun e=>
 zb8 h hi hj hij (inj _ _ (um h (by lia) i) (um h (by lia) j) e)
theorem QY(h:PmK n p){a:Nat}(hs:Srt κ p a)(h1:1≤a)(ha:a<n)(e:lxI (gK κ p a) (gK κ p (a-1))=false):Srt κ p (a+1):=fun i j hij hj=>by
 rcases lt_or_ge j a with z|z
 ·exact hs i j hij z
 ·obtain rfl:j=a:=by lia
  have l:=Z7 e (zh2 inj h ha (by lia) (by lia))
  by_cases hi:i=j-1
  ·subst hi;exact l
  ·exact wz _ _ _ (hs i (j-1) (by lia) (by lia)) l
omit inj in
theorem VQ{a:Nat}(hs:Dsc κ p a)(h1:1≤a)(e:lxI (gK κ p a) (gK κ p (a-1))=true):Dsc κ p (a+1):=fun i j hij hj=>by
 rcases lt_or_ge j a with z|z
 ·exact hs i j hij z
 ·obtain rfl:j=a:=by lia
  by_cases hi:i=j-1
  ·subst hi;exact e
  ·exact wz _ _ _ e (hs i (j-1) (by lia) (by lia))
theorem UG(hp:PmK n p):∀(f a:Nat),1≤a→a+f≤n→Srt κ p a →
  Pw (ltK κ) n (kas_asc p f a) fun m=>a≤m∧m≤a+f∧Srt κ p m∧(m<a+f→lxI (gK κ p m) (gK κ p (m-1))=true):=by
 intro l_
 induction l_ with
 |zero=>
  rintro a h1 h2 hs
  exact⟨le_refl _,le_refl _,hs,fun z=>absurd z (lt_irrefl _)⟩
 |succ f ih_=>
  rintro a h1 h2 hs
  unfold kas_asc
  refine⟨um hp (by lia) _,um hp (by lia) _,?_⟩
  cases e:ltK κ (p.getD a 0) (p.getD (a-1) 0) with
  |true=>
   refine Ge ?_
   exact⟨le_refl _,by lia,hs,fun _=>e⟩
  |false=>
   refine zb3 ?_
   refine Pw.mono (fun m ⟨q1,q2,q3,q4⟩=>⟨by lia,by lia,q3,fun z=>q4 (by lia)⟩) _ (ih_ (a+1) (by lia) (by lia) (QY inj hp hs h1 (by lia) e))
theorem JJ(hp:PmK n p):∀(f a:Nat),1≤a→a+f≤n→Dsc κ p a →
  Pw (ltK κ) n (kas_desc f p a 0) fun r=>r.1=p∧r.2.2=0∧a≤r.2.1∧r.2.1≤a+f∧Dsc κ p r.2.1:=by
 intro l_
 induction l_ with
 |zero=>
  rintro a h1 h2 hs
  exact⟨rfl,rfl,le_refl _,le_refl _,hs⟩
 |succ f ih_=>
  rintro a h1 h2 hs
  unfold kas_desc
  refine⟨um hp (by lia) _,um hp (by lia) _,?_⟩
  cases e:ltK κ (p.getD a 0) (p.getD (a-1) 0) with
  |true=>
   refine Ge ?_
   rw[if_neg (by lia)]
   refine Pw.mono (fun m ⟨q1,q2,q3,q4,q5⟩=>⟨q1,q2,by lia,by lia,q5⟩) _ (ih_ (a+1) (by lia) (by lia) (VQ hs h1 e))
  |false=>
   refine zb3 ?_
   refine⟨um hp (by lia) _,um hp (by lia) _,?_⟩
   have e2:ltK κ (p.getD (a-1) 0) (p.getD a 0)=true:=Z7 e (zh2 inj hp (by lia) (by lia) (by lia))
   rw[e2]
   refine Ge ?_
   exact⟨rfl,rfl,le_refl _,Nat.le_add_right _ _,hs⟩
omit inj in
theorem L0(hp:PmK n p){m:Nat}(hm:m≤n)(k:Nat):gK κ (kas_rev p 0 m) k=if k<m then gK κ p (m-1-k) else gK κ p k:=by
 unfold gK
 rw[xY,show(kas_rev p 0 m)[k]?=_ from getElem?_mirror_all (by rw[Z3 hp];exact hm) k]
 by_cases z:k<m
 ·rw[if_pos ⟨zero_le _,z⟩,if_pos z,← xY,zero_add]
 ·rw[if_neg (fun y=>z y.2),if_neg z,← xY]
omit inj in
theorem Gi(hp:PmK n p)(i j:Nat):PmK n (kas_rev p i j):=(Array.perm_iff_toList_perm.mp (mirror_perm p i j ((j-i) / 2))).trans hp
omit inj in
theorem M0(hp:PmK n p){m:Nat}(hm:m≤n)(hd:Dsc κ p m):Srt κ (kas_rev p 0 m) m:=fun i j hij hj=>by
 rw[L0 hp hm,L0 hp hm,if_pos (by lia),if_pos hj]
 exact hd _ _ (by lia) (by lia)
theorem QX(hp:PmK n p){m:Nat}(h1:1≤m)(hm:m≤n)(hd:Dsc κ p m):Pw (ltK κ) n (kas_tail3 m n p) fun r=>PmK n r.2∧1≤r.1∧r.1≤n∧Srt κ r.2 r.1:=by
 unfold kas_tail3
 refine Pw.bind _ (Pw.mono (fun m' z_=>?_) _ (UG inj (Gi hp 0 m) (n-m) m h1 (by lia) (M0 hp hm hd)))
 obtain⟨q1,q2,q3,q4⟩:=z_
 exact⟨Gi hp 0 m,by lia,by lia,q3⟩
theorem MG(hp:PmK n p)(hn:2≤n):Pw (ltK κ) n (kas_count n p) fun r=>PmK n r.2∧1≤r.1∧r.1≤n∧Srt κ r.2 r.1:=by
 unfold kas_count
 refine Pw.bind _ (Pw.mono (fun m z_=>?_) _ (UG inj hp (n-1) 1 (le_refl _) (by lia) fun i j hij hj=>by lia))
 obtain⟨q1,q2,q3,q4⟩:=z_
 by_cases e:m=n
 ·rw[if_pos (by simpa using e)]
  exact⟨hp,by lia,by lia,q3⟩
 ·rw[if_neg (by simpa using e)]
  have l:=q4 (by lia)
  by_cases z:m > 1
  ·rw[if_pos z]
   refine⟨um hp (by lia) _,um hp (by lia) _,?_⟩
   have:ltK κ (p.getD 0 0) (p.getD (m-1) 0)=true:=q3 0 (m-1) (by lia) (by lia)
   rw[this]
   refine Ge ?_
   exact⟨hp,by lia,by lia,q3⟩
  ·rw[if_neg z]
   obtain rfl:m=1:=by lia
   unfold kas_descPart
   have d1:Dsc κ p 1:=fun i j hij hj=>by lia
   refine Pw.bind _ (Pw.mono (fun r z_=>?_) _ (JJ inj hp (n-(1+1)) (1+1) (by lia) (by lia) (VQ d1 (le_refl _) l)))
   obtain⟨r1,r2,r3,r4,r5⟩:=z_
   rw[if_neg (by lia),r1]
   exact QX inj hp (by lia) (by lia) r5
theorem Yp(hp:PmK n p){k:Nat}(hk:k<n)(hs:Srt κ p k):∀(f l r:Nat),l≤r→r≤k→r-l≤f→(∀i,i<l→lxI (gK κ p i) (gK κ p k)=true)→(∀i,r≤i→i<k→lxI (gK κ p k) (gK κ p i)=true) →
  Pw (ltK κ) n (kas_place p k f l r) fun m=>m≤k∧(∀i,i<m→lxI (gK κ p i) (gK κ p k)=true)∧(∀i,m≤i→i<k→lxI (gK κ p k) (gK κ p i)=true):=by
 intro l_
 induction l_ with
 |zero=>
  rintro l r h1 h2 h3 h4 h5
  obtain rfl:l=r:=by lia
  exact⟨h2,h4,h5⟩
 |succ f ih_=>
  rintro l r h1 h2 h3 h4 h5
  unfold kas_place
  by_cases z:l ≥ r
  ·rw[if_pos z]
   obtain rfl:l=r:=by lia
   exact⟨h2,h4,h5⟩
  ·rw[if_neg z]
   refine⟨um hp (by lia) _,um hp (by lia) _,?_⟩
   cases e:ltK κ (p.getD k 0) (p.getD ((l+r) / 2) 0) with
   |true=>
    refine Ge ?_
    refine ih_ l ((l+r) / 2) (by lia) (by lia) (by lia) h4 fun i hi hik=>?_
    by_cases q:i=(l+r) / 2
    ·subst q;exact e
    ·exact wz _ _ _ e (hs _ i (by lia) hik)
   |false=>
    refine zb3 ?_
    refine ih_ ((l+r) / 2+1) r (by lia) (by lia) (by lia) (fun i hi=>?_) h5
    have e2:=Z7 e (zh2 inj hp hk (by lia) (by lia))
    by_cases q:i=(l+r) / 2
    ·subst q;exact e2
    ·exact wz _ _ _ (hs i _ (by lia) (by lia)) e2
omit inj in
theorem L1(hp:PmK n p){k l:Nat}(hk:k<n)(hl:l≤k)(i:Nat):gK κ (bubble p k (k-l)) i=if i=l then gK κ p k else if l<i∧i≤k then gK κ p (i-1) else gK κ p i:=by
 unfold gK
 rw[xY,getElem?_bubble (by rw[Z3 hp];exact hk) (k-l) (by lia) i,show k-(k-l)=l by lia]
 split
 ·rw[← xY]
 ·split
  ·rw[← xY]
  ·rw[← xY]
theorem MI:∀(f:Nat) (p:Array Nat) (k:Nat),PmK n p→k+f=n→Srt κ p k→Pw (ltK κ) n (kas_bin f p k) fun q=>PmK n q∧Srt κ q n:=by
 intro l_
 induction l_ with
 |zero=>
  rintro p k hp e hs
  obtain rfl:k=n:=by lia
  exact⟨hp,hs⟩
 |succ f ih_=>
  rintro p k hp e hs
  unfold kas_bin
  refine Pw.bind _ (Pw.mono (fun l z_=>?_) _ (Yp inj hp (by lia) hs k 0 k (zero_le _) (le_refl _) (by lia) (fun i hi=>by lia) (fun i hi hik=>by lia)))
  obtain⟨q1,q2,q3⟩:=z_
  refine ih_ _ (k+1) ((Array.perm_iff_toList_perm.mp (bubble_perm p k (k-l))).trans hp) (by lia) fun i j hij hj=>?_
  rw[L1 hp (by lia) q1,L1 hp (by lia) q1]
  by_cases a1:i=l
  ·rw[if_pos a1,if_neg (by lia),if_pos (by lia)]
   exact q3 _ (by lia) (by lia)
  ·rw[if_neg a1]
   by_cases a2:l<i∧i≤k
   ·rw[if_pos a2,if_neg (by lia),if_pos (by lia)]
    exact hs _ _ (by lia) (by lia)
   ·rw[if_neg a2]
    by_cases b1:j=l
    ·rw[if_pos b1];exact q2 _ (by lia)
    ·rw[if_neg b1]
     by_cases b2:l<j∧j≤k
     ·rw[if_pos b2]
      by_cases c:i=j-1
      ·lia
      ·exact hs _ _ (by lia) (by lia)
     ·rw[if_neg b2];exact hs _ _ hij (by lia)
theorem UT(hn:2≤n):Pw (ltK κ) n (kas_sort n) fun q=>PmK n q∧Srt κ q n:=by
 unfold kas_sort
 refine Pw.bind _ (Pw.mono (fun r z_=>?_) _ (MG inj (p:=List.toArray (List.range n)) (by show(List.toArray (List.range n)).toList.Perm _;simp) hn))
 obtain⟨q1,q2,q3,q4⟩:=z_
 by_cases z:r.1<n
 ·rw[if_pos z,Nat.max_eq_left q2]
  exact MI inj _ _ _ q1 (by lia) q4
 ·rw[if_neg z]
  obtain e:r.1=n:=by lia
  rw[e] at q4
  exact⟨q1,q4⟩
end
noncomputable def YR{α:Type}(x:List Int×α):List (List Int×α)→List (List Int×α)
 |[]=>[x]
 |y::r=>if lxI x.1 y.1=true then x::y::r else y::YR x r
noncomputable def xM{α:Type}:List (List Int×α)→List (List Int×α)
 |[]=>[]
 |x::r=>YR x (xM r)
theorem Zw{α:Type}(x:List Int×α):∀l,(YR x l).Perm (x::l):=by
 intro l_
 induction l_ with
 |nil=>
  exact List.Perm.refl _
 |cons y r ih_=>
  unfold YR
  split
  ·exact List.Perm.refl _
  ·exact((ih_).cons y).trans (List.Perm.swap x y r)
theorem vc{α:Type}:∀l:List (List Int×α),(xM l).Perm l:=by
 intro l_
 induction l_ with
 |nil=>
  exact List.Perm.refl _
 |cons x r ih_=>
  exact(Zw x _).trans ((ih_).cons x)
theorem VF{α:Type}(x:List Int×α):∀l:List (List Int×α),l.Pairwise (fun a b=>lxI a.1 b.1=true)→(∀y∈l,y.1≠x.1)→(YR x l).Pairwise fun a b=>lxI a.1 b.1=true:=by
 intro l_
 induction l_ with
 |nil=>
  rintro _ _
  unfold YR;simp
 |cons y r ih_=>
  rintro h hd
  unfold YR
  obtain⟨h1,h2⟩:=pairwise_cons.mp h
  split
  ·rename_i z
   refine pairwise_cons.mpr ⟨fun a ha=>?_,h⟩
   rcases mem_cons.mp ha with rfl|ha
   ·exact z
   ·exact wz _ _ _ z (h1 a ha)
  ·rename_i z
   have z':lxI y.1 x.1=true:=Z7 (by simpa using z) (hd y mem_cons_self).symm
   refine pairwise_cons.mpr ⟨fun a ha=>?_,ih_ h2 fun a ha=>hd a (mem_cons_of_mem _ ha)⟩
   rcases mem_cons.mp ((Zw x r).mem_iff.mp ha) with rfl|ha
   ·exact z'
   ·exact h1 a ha
theorem Zf{α:Type}:∀l:List (List Int×α),(l.map (·.1)).Nodup→(xM l).Pairwise fun a b=>lxI a.1 b.1=true:=by
 intro l_
 induction l_ with
 |nil=>
  rintro _
  unfold xM;exact List.Pairwise.nil
 |cons x r ih_=>
  rintro h
  unfold xM
  rw[map_cons,nodup_cons] at h
  refine VF x _ (ih_ h.2) fun y hy e=>h.1 ?_
  rw[← e]
  exact mem_map.mpr ⟨y,(vc r).mem_iff.mp hy,rfl⟩
theorem Zl{α:Type}{r:α→α→Prop}(as:∀a b,r a b→r b a→False):∀{l m:List α},l.Perm m→l.Pairwise r→m.Pairwise r→l=m
 |[],m,p,_,_=>(List.Perm.nil_eq p)
 |a::l,[],p,_,_=>by have:=p.length_eq;simp at this
 |a::l,b::m,p,h1,h2=>by
  obtain⟨x1,x2⟩:=pairwise_cons.mp h1
  obtain⟨y1,y2⟩:=pairwise_cons.mp h2
  by_cases e:a=b
  ·subst e
   rw[Zl as ((List.perm_cons a).mp p) x2 y2]
  ·have ha:a∈b::m:=p.mem_iff.mp mem_cons_self
   have hb:b∈a::l:=p.mem_iff.mpr mem_cons_self
   rcases mem_cons.mp ha with z|z
   ·exact absurd z e
   ·rcases mem_cons.mp hb with w|w
    ·exact absurd w.symm e
    ·exact(as a b (x1 b w) (y1 a z)).elim
theorem V4{α:Type}{l m:List (List Int×α)}(p:l.Perm m)(h:l.Pairwise fun a b=>lxI a.1 b.1=true)(nd:(m.map (·.1)).Nodup):l=xM m:=
 Zl (fun a b x y=>by rw[XU x] at y;cases y) (p.trans (vc m).symm) h (Zf m nd)
theorem WZ{α:Type}{ks:List (List Int)}{ds:List α}{q:Array Nat}{d:α}(hl:ks.length=ds.length)(nd:ks.Nodup)(hp:q.toList.Perm (List.range ds.length))(hs:Srt (fun i=>ks.getD i []) q ds.length) :
  q.toList.map (fun i=>ds.getD i d)=(xM (ks.zip ds)).map (·.2):=by
 have hz:(ks.zip ds).map (·.1)=ks:=List.map_fst_zip (by lia)
 have e0:(List.range ds.length).map (fun i=>(ks.getD i [],ds.getD i d))=ks.zip ds:=by
  apply List.ext_getElem
  ·simp[hl]
  ·intro i h1 h2
   have a1:i<ds.length:=by simpa using h1
   have a2:i<ks.length:=by lia
   simp[a1,a2]
 have key:q.toList.map (fun i=>(ks.getD i [],ds.getD i d))=xM (ks.zip ds):=by
  refine V4 (by rw[← e0];exact hp.map _) ?_ (by rw[hz];exact nd)
  rw[pairwise_map,pairwise_iff_getElem]
  intro i j hi hj hij
  have sz:q.size=ds.length:=Z3 hp
  have:=hs i j hij (by simpa[sz] using hj)
  unfold gK at this
  rw[xY,xY] at this
  have ea:q[i]?=some q.toList[i]:=by rw[getElem_toList];exact Array.getElem?_eq_getElem _
  have eb:q[j]?=some q.toList[j]:=by rw[getElem_toList];exact Array.getElem?_eq_getElem _
  rw[ea,eb] at this
  exact this
 rw[← key,map_map]
 rfl
open PySem.W
noncomputable def KTs(h:Heap):List Value→List (List Int)→Prop
 |[],[]=>True
 |v::vs,k::ks=>(∃a o its n,v=Value.ref a∧h.get? a=some o∧o.cls=.type "tuple" ∧ o.data=.seq its n∧IntsAre its.toList k∧k≠[])∧KTs h vs ks
 |_,_=>False
theorem KTs.len{h:Heap}:∀{vs:List Value} {ks:List (List Int)},KTs h vs ks→vs.length=ks.length
 |[],[],_=>rfl
 |_::vs,_::ks,r=>by rw[length_cons,length_cons,KTs.len r.2]
 |[],_::_,r=>r.elim
 |_::_,[],r=>r.elim
theorem KTs.get{h:Heap}:∀{vs:List Value} {ks:List (List Int)} {i:Nat},KTs h vs ks→i<ks.length→∃a o its n,vs.getD i Value.none=Value.ref a∧h.get? a=some o∧o.cls=.type "tuple" ∧ o.data=.seq its n∧IntsAre its.toList (ks.getD i [])∧ks.getD i []≠[]
 |[],[],_,_,hi=>by simp at hi
 |_::vs,_::ks,0,r,_=>by simpa using r.1
 |_::vs,_::ks,i+1,r,hi=>by
  obtain⟨a,o,its,n,q⟩:=KTs.get (i:=i) r.2 (by simpa using hi)
  exact⟨a,o,its,n,by simpa using q⟩
 |[],_::_,_,r,_=>r.elim
 |_::_,[],_,r,_=>r.elim
theorem KTs.firsts{h:Heap}:∀{vs:List Value} {ks:List (List Int)},KTs h vs ks→∃fs:List Value,KatTups h vs fs∧fs.length=vs.length∧∀v∈fs,∃n t,v=Value.int n t
 |[],[],_=>⟨[],KatTups.nil,rfl,fun _ z=>nomatch z⟩
 |v::vs,k::ks,⟨⟨a,o,its,n,e1,e2,e3,e4,e5,e6⟩,r⟩=>by
  obtain⟨fs,q1,q2,q3⟩:=KTs.firsts r
  subst e1
  have:∃i t,its[0]?=some (Value.int i t):=by
   obtain⟨l⟩:=its
   cases e5 with
   |nil=>exact absurd rfl e6
   |cons i t _=>exact⟨i,t,rfl⟩
  obtain⟨i,t,h0⟩:=this
  refine⟨_,KatTups.cons e2 e3 e4 h0 q1,by simp[q2],fun v hv=>?_⟩
  rcases mem_cons.mp hv with rfl|hv
  ·exact⟨_,_,rfl⟩
  ·exact q3 v hv
 |[],_::_,r=>r.elim
 |_::_,[],r=>r.elim
section
variable{prog:Program}{w:World}{A:Around}{E:Value→Shared→Prop}{s:Shared}
theorem Qp{vs:List Value}{ks:List (List Int)}{Q:SortKind→Shared→Prop}(h:KTs s.heap vs ks)(hn:0<vs.length)(q:Q (tuples' true) s):wpAny (model prog w) A (keyKind' vs.toArray) Q E s:=by
 obtain⟨fs,q1,q2,q3⟩:=h.firsts
 refine kat_kind (T:=.type "int") q1 (by lia) (fun v hv=>?_) (by decide) q
 obtain⟨i,t,rfl⟩:=q3 v hv
 exact Looks.now
theorem Vu{Q:Bool→Shared→Prop}{fin:Bool}:∀{xs ys:List Int} {us ws:List Value} (i:Nat),IntsAre us xs→IntsAre ws ys→fin=decide (xs.length<ys.length)→Q (lxI xs ys) s→KatLex prog w A true fin Q (us.zip ws) i s
 |_,_,_,_,i,.nil,.nil,e,q=>by
  have e:fin=false:=by simpa using e
  subst e
  exact kat_nil q
 |_,_,_,_,i,.nil,.cons _ _ _,e,q=>by
  have e:fin=true:=by simpa using e
  subst e
  exact kat_nil q
 |_,_,_,_,i,.cons _ _ _,.nil,e,q=>by
  have e:fin=false:=by simpa using e
  subst e
  exact kat_nil q
 |_,_,_,_,i,.cons a t r1,.cons b u r2,e,q=>by
  rw[lxI] at q
  refine kat_cons (wpAny_eqBool_int ?_)
  by_cases z:a=b
  ·subst z
   rw[if_pos rfl] at q
   rw[beq_self_eq_true]
   exact kat_yes (Vu (i+1) r1 r2 (by rw[e];simp) q)
  ·rw[if_neg z] at q
   rw[show(a==b)=false by simpa using z]
   refine kat_no ?_
   cases hi:(true&&i==0) with
   |true=>exact oneLt_int q
   |false=>exact kat_one _ _ (PyProof.Rows.lt_int (show PySem.W.BoolBack Q (.bool (decide (a<b))) s from q))
theorem MN{vs:List Value}{ks:List (List Int)}{n:Nat}(h:KTs s.heap vs ks)(hn:ks.length=n)(i j:Nat)(C:Bool→Shared→Prop)(hi:i<n)(hj:j<n)(q:C (ltK (fun i=>ks.getD i []) i j) s):kas_ask prog w A (tuples' true) vs i j C s:=by
 obtain⟨a,o,its,m,e1,e2,e3,e4,e5,e6⟩:=h.get (i:=i) (by lia)
 obtain⟨a',o',its',m',f1,f2,f3,f4,f5,f6⟩:=h.get (i:=j) (by lia)
 unfold kas_ask
 rw[e1,f1]
 refine kat_lt e2 e4 f2 f4 (Vu 0 e5 f5 ?_ q)
 have l1:=e5.length
 have l2:=f5.length
 rw[length_toList] at l1 l2
 rw[l1,l2]
theorem Q6{vs us:List Value}{ks:List (List Int)}{Q:SortSt→Shared→Prop}(h:KTs s.heap vs ks)(hl:vs.length=us.length)(h2:2≤us.length)(h64:us.length<64)(nd:ks.Nodup)
  (q:∀(p:Array Nat) (st:SortSt),PmK us.length p→Srt (fun i=>ks.getD i []) p us.length→(arrOf st).map (·.2)=List.toArray (p.toList.map fun i=>us.getD i Value.none)→failedOf st=none→Q st s) :
  wpAny (model prog w) A ((sortRuns').run (SortSt.mk' (tuples' true) (vs.toArray.zip us.toArray) #[] 7 none)) (fun r s'=>Q r.2 s') E s:=by
 have hk:ks.length=us.length:=by rw[← h.len,hl]
 refine kat_run (G:=fun p s'=>s'=s∧PmK us.length p∧Srt (fun i=>ks.getD i []) p us.length) hl h2 h64 (fun p st' s' h1 h3 h4 h5=>?_) ?_
 ·obtain⟨rfl,h5,h6⟩:=h5
  exact q p st' h5 h6 (kat_snds hl h3) h4
 ·have inj:∀i j,i<us.length→j<us.length→ks.getD i []=ks.getD j []→i=j:=fun i j hi hj e=>by
   have key:∀a b:Nat,a<b→b<us.length→ks.getD a []≠ks.getD b []:=fun a b hab hb=>by
    have:=pairwise_iff_getElem.mp nd a b (by lia) (by lia) hab
    have ea:ks.getD a []=ks[a]'(by lia):=by simp[show a<ks.length by lia]
    have eb:ks.getD b []=ks[b]'(by lia):=by simp[show b<ks.length by lia]
    rw[ea,eb];exact this
   rcases Nat.lt_trichotomy i j with z|z|z
   ·exact absurd e (key i j z hj)
   ·exact z
   ·exact absurd e.symm (key j i z hi)
  exact Pw.wp (fun i j C hi hj=>MN h hk i j C hi hj) (fun p hp=>⟨rfl,hp⟩) _ (UT (κ:=fun i=>ks.getD i []) inj h2)
end
noncomputable def YQ:List D→Option (List Int)
 |[]=>some []
 |.int i::r=>(YQ r).map (i :: ·)
 |_=>none
noncomputable def Lg:D→Option (List Int)
 |.tup ds=>YQ ds
 |_=>none
theorem VD:∀{ds:List D} {ns:List Int},YQ ds=some ns→ds=ns.map D.int
 |[],ns,h=>by cases h;rfl
 |.int i::r,ns,h=>by
  simp only[YQ] at h
  cases q:YQ r with
  |none=>rw[q] at h;cases h
  |some m=>rw[q] at h;cases h;rw[VD q];rfl
 |.non::_,_,h=>by cases h
 |.bl _::_,_,h=>by cases h
 |.str _::_,_,h=>by cases h
 |.lst _::_,_,h=>by cases h
 |.tup _::_,_,h=>by cases h
 |.scr _::_,_,h=>by cases h
 |.raw _::_,_,h=>by cases h
 |.exc _::_,_,h=>by cases h
 |.dct _ _::_,_,h=>by cases h
theorem Lf{d:D}{ns:List Int}(h:Lg d=some ns):d=.tup (ns.map D.int):=by
 cases d <;> first|cases h|skip
 rename_i ds
 rw[VD (ds:=ds) h]
noncomputable def ZL:List D→Option (List (List Int))
 |[]=>some []
 |d::r=>match Lg d,ZL r with
  |some k,some ks=>some (k::ks)
  |_,_=>none
theorem Vz:∀{ds:List D} {ks:List (List Int)},ZL ds=some ks→ds=ks.map fun k=>D.tup (k.map D.int)
 |[],ks,h=>by cases h;rfl
 |d::r,ks,h=>by
  simp only[ZL] at h
  cases q:Lg d with
  |none=>rw[q] at h;cases h
  |some k=>
   cases q2:ZL r with
   |none=>rw[q,q2] at h;cases h
   |some ks'=>
    rw[q,q2] at h;cases h
    rw[Lf q,Vz q2];rfl
section
variable[Tabs]{X:Cx}{pins:List (Addr×Obj)}{σ:St}{F H:Hp}{s:Shared}
theorem VC:∀{ns:List Int} {vs:List V} {us:List Value},Reps X.K F (ns.map D.int) vs→Vals vs us→IntsAre us ns
 |[],_,_,r,v=>by
  simp only[map_nil,Reps] at r;subst r
  cases v;exact .nil
 |n::ns,_,_,r,v=>by
  simp only[map_cons,Reps] at r
  obtain⟨x,xs,rfl,rx,rr⟩:=r
  simp only[Rep] at rx
  subst rx
  cases v with
  |cons e t=>
   rename_i u us
   obtain⟨t',e⟩:∃t',u=Value.int n t':=e
   subst e
   exact .cons _ _ (VC rr t)
theorem G6(I:Inv X pins σ H s)(fh:Same F H):∀{ks:List (List Int)} {vs:List V} {us:List Value},Reps X.K F (ks.map fun k=>D.tup (k.map D.int)) vs→Vals vs us→(∀k∈ks,k≠[])→KTs s.heap us ks
 |[],_,_,r,v,_=>by
  simp only[map_nil,Reps] at r;subst r
  cases v;exact trivial
 |k::ks,_,_,r,v,ne=>by
  simp only[map_cons,Reps] at r
  obtain⟨x,xs,rfl,rx,rr⟩:=r
  simp only[Rep] at rx
  obtain⟨a,ws,rfl,q,t⟩:=rx
  obtain⟨its,rv,⟨o,eo,hc,n,hd⟩,hz⟩:=I.tuple (Same.seqT fh q)
  cases v with
  |cons e tl=>
   rename_i u us
   have e:u=Value.ref a:=e
   subst e
   exact⟨⟨a,o,its.toArray,n,rfl,eo,hc,hd,by simpa using VC t rv,ne k mem_cons_self⟩,G6 I fh rr tl fun k hk=>ne k (mem_cons_of_mem _ hk)⟩
theorem Reps.pick{K:Frag}{ds:List D}{vs:List V}(r:Reps K F ds vs):∀(q:List Nat),(∀i∈q,i<ds.length)→Reps K F (q.map fun i=>ds.getD i .non) (q.map fun i=>vs.getD i .non):=by
 intro l_
 induction l_ with
 |nil=>
  rintro _
  exact Reps.nil
 |cons i q ih_=>
  rintro h
  have hi:=h i mem_cons_self
  obtain⟨v,e1,e2⟩:=r.get (i:=i) (getElem?_eq_getElem hi)
  have z1:ds.getD i .non=ds[i]:=by simp[hi]
  have z2:vs.getD i .non=v:=by simp[e1]
  rw[map_cons,map_cons,z1,z2]
  exact Reps.cons e2 (ih_ fun j hj=>h j (mem_cons_of_mem _ hj))
theorem Zc{vs:List V}{us:List Value}(r:Vals vs us):∀(q:List Nat),(∀i∈q,i<vs.length)→Vals (q.map fun i=>vs.getD i .non) (q.map fun i=>us.getD i .none):=by
 intro l_
 induction l_ with
 |nil=>
  rintro _
  exact .nil
 |cons i q ih_=>
  rintro h
  have hi:=h i mem_cons_self
  obtain⟨u,e1,e2⟩:=r.get (i:=i) (getElem?_eq_getElem hi)
  have z1:vs.getD i .non=vs[i]:=by simp[hi]
  have z2:us.getD i .none=u:=by simp[e1]
  rw[map_cons,map_cons,z1,z2]
  exact .cons e2 (ih_ fun j hj=>h j (mem_cons_of_mem _ hj))
end
open PySem.W
section
variable{X:Cx}{pins:List (Addr×Obj)}{σ:St}{F H:Hp}{τ:DS}{s:Shared}{Q:VK}{E:Value→Shared→Prop}
theorem Inv.relist(I:Inv X pins σ H s){a:Addr}{xs ys:List V}{us ws:List Value}{n:Nat}{g:Array Value→Array Value}(e:H a=some (.lst xs))(o:s.heap.get? a=some (seqObj "list" us.toArray n))(hg:g us.toArray=ws.toArray)(r:Vals ys ws)(hz:ys.length≤sizeLine) :
  Inv X pins σ (upd H a (.lst ys)) { s with heap:=s.heap.update a (Obj.mapSeq g) }:=by
 have h1:=get?_update_seq o g
 rw[hg] at h1
 exact I.write (t':=s.toks) (by rw[e];exact trivial) (.inl rfl) (fun b u hb q=>by rw[Heap.get?_update_ne _ _ _ _ hb];exact q) ⟨_,h1⟩ ⟨hz,ws,_,r,h1⟩
theorem Inv.settle(I:Inv X (pins++[p]) σ H s){D:Addr}{n:Nat}{ys:List V}{ws:List Value}{g:Array Value→Array Value}(hp:p=(D,seqObj "list" #[] n))(hg:g #[]=ws.toArray)(r:Vals ys ws)(hz:ys.length≤sizeLine)
  (h0:X.s₀.heap.objs.size≤D) (hc:∀x c,X.env.cells.lookup x=some c→c≠D) (hn:∀q∈X.pn++pins,q.1≠D):Inv X pins σ (upd H D (.lst ys)) { s with heap:=s.heap.update D (Obj.mapSeq g) }:=by
 subst hp
 obtain⟨e,nD,neL,nf,_⟩:=I.pin (D,seqObj "list" #[] n) (by simp)
 have J:Inv X pins σ H s:=I.pins_of fun q hq=>I.pin q (mem_append_right _ (mem_append_left _ hq))
 have h1:=get?_update_seq e g
 rw[hg] at h1
 have kp:∀b u,b≠D→s.heap.get? b=some u→(s.heap.update D (Obj.mapSeq g)).get? b=some u:=fun b u hb q=>by rw[Heap.get?_update_ne _ _ _ _ hb];exact q
 refine J.step (g':=s.gens) (d':=s.drawn) (t':=s.toks) (ch:=[D]) (fun b hb=>?_) (fun b o _ _ hb q _=>kp b o (by simpa using hb) q) (fun b o _ _ hb q _=>⟨o.slots,kp b o (by simpa using hb) q⟩) (fun b o hb _ q=>by rw[zi (by simpa using hb)];exact q)
  (fun b o hb q=>⟨o,kp b o (by simpa using hb) q⟩) (fun b xs q=>by rw[zi (zF q nD)];exact q) (fun b o u q=>by rw[zi (zF q nD)];exact q) (fun b ps q=>⟨#[],by rw[zi (zF q nD),q];simp⟩) (fun m hm=>?_) ?_ J.bare
 ·have:b=D:=by simpa using hb
  subst this
  exact⟨.inr h0,neL,hc,hn⟩
 ·obtain⟨o,es,ep,ho,r'⟩:=hm
  exact⟨o,es,ep,kp _ o (Ne.symm neL) ho,r'⟩
 ·intro b u q
  by_cases hb:b=D
  ·subst hb
   rw[zn] at q;cases q
   exact⟨hz,ws,_,r,h1⟩
  ·rw[zi hb] at q
   refine(J.hok b u q).stay (fun c v hc' q'=>kp c v ?_ q') (fun c q'=>by rw[zi (zF q' nD)];exact q') fun c xs q'=>by rw[zi (zF q' nD)];exact q'
   rcases hc' with z|z
   ·rw[z];exact hb
   ·exact zF z nD
theorem JR:Vals ([]:List V) []:=.nil
theorem UL{D kS:Addr}{e1:Nat}{st:SortSt}{kvs ovs:List V}{out:List Value}{P:PySem.Fin→Shared→Prop}{A:Around}(I:Inv X (pins++[(D,seqObj "list" #[] e1)]) σ H s)(hk:H kS=some (.lst kvs))(hout:(arrOf st).map (·.2)=List.toArray out)(hf:failedOf st=none)(hz:out.length<64)
  (r:Vals ovs out) (hkz:kvs.length≤sizeLine) (h0:X.s₀.heap.objs.size≤D) (hc:∀x c,X.env.cells.lookup x=some c→c≠D) (hn:∀q∈X.pn++pins,q.1≠D)
  (h:∀s',Inv X pins σ (upd (upd H kS (.lst [])) D (.lst ovs)) s'→P (.done (.ret .none)) s'):wpAny (model X.prog X.w) A (ksk_tail D false e1 (.ref kS) st) P E s:=by
 obtain⟨z1,its,n,rk,ek⟩:=I.hok kS _ hk
 have lk:its.length≤sizeLine:=by rw[← rk.length];exact hkz
 have I1:=Inv.relist (g:=fun _=>#[]) I hk ek (ws:=[]) rfl JR (zero_le _)
 obtain⟨eD,nD,_⟩:=I1.pin (D,seqObj "list" #[] e1) (by simp)
 unfold ksk_tail
 try dsimp only
 refine wpAny_bind (listUpdate_at ek rfl ?_ (by rw[size_toArray];exact lk) (zero_le _))
 refine wpAny_bind (wpAny_letGo ?_)
 refine wpAny_bind (seqEpoch_at eD rfl ?_)
 refine wpAny_bind (listUpdate_at eD rfl ?_ (zero_le _) ?_)
 ·rw[hf]
  simp only[bne_self_eq_false,Bool.false_eq_true,if_false]
  exact wpAny_pure (h _ (Inv.settle I1 rfl (ws:=out) hout r (by rw[r.length];exact le_of_lt (xi (by lia))) h0 hc hn))
 ·simp only[Bool.false_eq_true,if_false]
  rw[hout,size_toArray]
  exact le_trans (le_of_lt (xi (by lia))) (le_succ _)
theorem Yh:∀{kz:List (List Int)} {ds:List D},kz.length=ds.length→ds.length<2→(xM (kz.zip ds)).map (·.2)=ds
 |[],[],_,_=>rfl
 |[a],[b],_,_=>rfl
 |[],_::_,h,_=>by simp at h
 |[_],[],h,_=>by simp at h
 |[_],_::_::_,h,_=>by simp at h
 |_::_::_,ds,h,h2=>by simp at h;lia
theorem zh5{Da kS:Addr}{e1:Nat}{kvs vs:List V}{us:List Value}{ds:List D}{kz:List (List Int)}{P:PySem.Fin→Shared→Prop}{A:Around}(I:Inv X (pins++[(Da,seqObj "list" #[] e1)]) σ H s)(hk:H kS=some (.lst kvs)){ks:List Value}{n:Nat}(ek:s.heap.get? kS=some (seqObj "list" ks.toArray n))(rk:Vals kvs ks)
  (fh:Same F H) (kr:Reps X.K F (kz.map fun k=>FD.D.tup (k.map FD.D.int)) kvs) (ne:∀k∈kz,k≠[]) (nd:kz.Nodup) (hl:kz.length=ds.length) (rs:Reps X.K F ds vs) (rv:Vals vs us) (hz:us.length<64)
  (h0:X.s₀.heap.objs.size≤Da) (hc:∀x c,X.env.cells.lookup x=some c→c≠Da) (hn:∀q∈X.pn++pins,q.1≠Da)
  (h:∀s' ovs,Inv X pins σ (upd (upd H kS (.lst [])) Da (.lst ovs)) s'→Reps X.K F ((xM (kz.zip ds)).map (·.2)) ovs→P (.done (.ret .none)) s'):wpAny (model X.prog X.w) A (ksk_end Da false us.toArray e1 (.ref kS) ks.toArray) P E s:=by
 have l1:ds.length=us.length:=by rw[rs.length,rv.length]
 have l2:ks.length=us.length:=by rw[← rk.length,← kr.length,length_map,hl,l1]
 have hkz:kvs.length≤sizeLine:=by rw[rk.length,l2];exact le_of_lt (xi (by lia))
 unfold ksk_end
 try dsimp only
 simp only[Bool.false_eq_true,if_false]
 by_cases h2:us.length<2
 ·have h2':us.toArray.size<2:=by rw[size_toArray];exact h2
  rw[if_pos h2',if_pos h2']
  refine wpAny_bind (wpAny_pure ?_)
  rw[StateT.run_pure]
  refine wpAny_bind (wpAny_pure ?_)
  try dsimp only
  refine UL (out:=us) (ovs:=vs) I hk ?_ rfl hz rv hkz h0 hc hn fun s' J=>h s' vs J ?_
  ·show((ks.toArray.zip us.toArray).map (·.2))=us.toArray
   apply Array.toList_inj.mp
   rw[Array.toList_map,ksk_zip]
   exact List.map_snd_zip (by simp[l2])
  ·rw[Yh hl (by lia)];exact rs
 ·have h2':¬ us.toArray.size<2:=by rw[size_toArray];exact h2
  rw[if_neg h2',if_neg h2']
  have kt:=G6 I fh kr rk ne
  refine wpAny_bind (Qp kt (by lia) ?_)
  refine wpAny_bind (Q6 (Q:=fun st s'=>wpAny (model X.prog X.w) A (ksk_tail Da false e1 (.ref kS) st) P E s') kt l2 (by lia) hz nd fun p st h3 h4 h5 h6=>?_)
  have hp:∀i∈p.toList,i<us.length:=fun i hi=>by simpa using h3.mem_iff.mp hi
  refine UL (ovs:=p.toList.map fun i=>vs.getD i .non) I hk h5 h6 ?_ (Zc rv _ fun i hi=>by rw[rv.length];exact hp i hi) hkz h0 hc hn fun s' J=>h s' _ J ?_
  ·rw[length_map,h3.length_eq,length_range];exact hz
  ·rw[← WZ (q:=p) (d:=.non) hl nd (by rw[l1];exact h3) (by rw[l1];exact h4)]
   exact Reps.pick rs _ fun i hi=>by rw[l1];exact hp i hi
end
open PySem.W
section
variable{X:Cx}{pins:List (Addr×Obj)}{σ:St}{F H:Hp}{τ:DS}{s:Shared}{Q:VK}{E:Value→Shared→Prop}
theorem V3{l f:Addr}{ds:List D}{vs:List V}{kz:List (List Int)}(I:Inv X pins σ H s)(fh:Same F H)(hl:F l=some (.lst vs))(rs:Reps X.K F ds vs)(h64:ds.length<64)(hk:kz.length=ds.length)(nd:kz.Nodup)(ne:∀k∈kz,k≠[])
  (key:∀(i:Nat) (d:D) (k:List Int),ds[i]?=some d→kz[i]?=some k→∀(pins':List (Addr×Obj)) (s':Shared) (F' H':Hp) (v:V) (u:Value) (Q':VK),Inv X pins' σ H' s'→(∀p∈pins,p∈pins')→Ext F H F' H'→Rep X.K F' d v→RelV v u →
   (∀kv F'' H'',Ext F' H' F'' H''→Rep X.K F'' (.tup (k.map D.int)) kv→Q' kv H'')→wpAny (model X.prog X.w) X.A.in1.in1 (call (.ref f) [u]) (EP X pins' σ Q') (fun _ _=>False) s')
  (hQ:∀Da F' H',Ext F H F' H'→Rep X.K F' (.lst ((xM (kz.zip ds)).map (·.2))) (.ref Da)→Q (.ref Da) H') :
  wpAny (model X.prog X.w) X.A (call (.builtin "sorted") [.ref l] [(Str.ofString "key", .ref f)]) (EP X pins σ Q) E s:=by
 obtain⟨us,rv,⟨o,nn,eo,hc,hd0,hd⟩,hz⟩:=I.list (SqL.of (K:=X.K) (fh _ _ hl))
 have hil:s.heap.IsList l us.toArray:=⟨o,eo,hc,nn,hd⟩
 have l1:ds.length=us.length:=by rw[rs.length,rv.length]
 have sz:us.length≤sizeLine:=le_of_lt (xi (by lia))
 refine call_function_entry_kw kind_sorted plain_sorted entry_sorted (ksk_s1 _ _) ?_
 unfold Builtin.«sorted»
 refine wpAny_bind (m:=checkCount "sorted" 1 1 _) (wpAny_pure ?_)
 refine wpAny_bind (collect_list hil ?_ sz)
 refine wpAny_bind (wpAny_newList ?_ sz)
 have keep1:∀b u,s.heap.get? b=some u→((s.heap.push (seqObj "list" #[] 0)).update s.heap.objs.size (Obj.mapSeq (· ++ us.toArray))).get? b=some u:=fun b u q=>by
  have hb:b<s.heap.objs.size:=Heap.lt_size q
  rw[Heap.get?_update_ne _ _ _ _ (ne_of_lt hb),Heap.get?_push_ne _ _ _ (ne_of_lt hb)]
  exact q
 have size1:s.heap.objs.size≤((s.heap.push (seqObj "list" #[] 0)).update s.heap.objs.size (Obj.mapSeq (· ++ us.toArray))).objs.size:=by rw[Heap.size_update,size_push'];lia
 generalize hh1:(s.heap.push (seqObj "list" #[] 0)).update s.heap.objs.size (Obj.mapSeq (· ++ us.toArray))=h1 at keep1 size1
 have hD:(h1.push (seqObj "list" us.toArray 0)).get? h1.objs.size=some (seqObj "list" us.toArray 0):=Heap.get?_push_size _ rfl
 have keep2:∀b u,s.heap.get? b=some u→(h1.push (seqObj "list" us.toArray 0)).get? b=some u:=fun b u q=>get?_push_of_some _ (keep1 b u q)
 generalize hDa:h1.objs.size=Da at hD size1
 have neD:∀b u,s.heap.get? b=some u→b≠Da:=fun b u q=>ne_of_lt (lt_of_lt_of_le (Heap.lt_size q) size1)
 generalize hh2:h1.push (seqObj "list" us.toArray 0)=h2 at hD keep2
 have ltD:Da<h2.objs.size:=Heap.lt_size hD
 refine wpAny_bind (wpAny_holding (wpAny_call_entry_kw (rest:=[]) slot_list_sort ⟨_,hD,rfl⟩ entry_list_sort ?_ (ksk_l1 _ _)))
 show wpAny (model X.prog X.w) X.A.in1.in1 (Builtin.«list.sort» ⟨[.ref Da],[(Str.ofString "key", .ref f)]⟩) _ _ _
 rw[ksk_t1 f Da]
 unfold ksk_tree
 refine wpAny_bind (listItems_at hD rfl ?_)
 refine wpAny_bind (listUpdate_at hD rfl ?_ (by rw[size_toArray];exact sz) (zero_le _))
 have keep3:∀b u,s.heap.get? b=some u→(h2.update Da (Obj.mapSeq fun _=>(#[]:Array Value))).get? b=some u:=fun b u q=>by
  rw[Heap.get?_update_ne _ _ _ _ (neD b u q)];exact keep2 b u q
 obtain⟨e1,hD3⟩:∃e1,(h2.update Da (Obj.mapSeq fun _=>(#[]:Array Value))).get? Da=some (seqObj "list" #[] e1):=⟨_,get?_update_seq hD fun _=>#[]⟩
 generalize h2.update Da (Obj.mapSeq fun _=>(#[]:Array Value))=h3 at keep3 hD3
 refine wpAny_bind (seqEpoch_at hD3 rfl ?_)
 refine wpAny_bind (wpAny_newTuple ?_ (by show us.length≤sizeLine;exact sz))
 refine wpAny_bind (wpAny_newList ?_ (zero_le _))
 refine wpAny_holding ?_
 have hDa0:s.heap.objs.size≤Da:=size1
 have nH:H Da=none:=I.hok.fresh hDa0
 have neL:Da≠X.env.locals:=(ne_of_lt (lt_of_lt_of_le I.lt hDa0)).symm
 have pinD:∀q∈X.pn++pins,q.1≠Da:=fun q hq=>neD _ _ (I.pin q hq).1
 have cellD:∀x c,X.env.cells.lookup x=some c→c≠Da:=fun x c e=>by
  obtain⟨v,oc,hoc,_⟩:=I.cell x c e
  exact neD _ _ hoc
 have I1:Inv X pins σ H { s with heap:=h3.push (seqObj "tuple" us.toArray 0) }:=I.kept (t':=s.toks) fun b u q=>get?_push_of_some _ (keep3 b u q)
 have I2:Inv X (pins++[(Da,seqObj "list" #[] e1)]) σ H { s with heap:=h3.push (seqObj "tuple" us.toArray 0) }:=I1.pins_of fun q hq=>by
  rcases mem_append.mp hq with hq|hq
  ·exact I1.pin q (mem_append_right _ hq)
  ·have:q=(Da,seqObj "list" #[] e1):=by simpa using hq
   subst this
   exact⟨get?_push_of_some _ hD3,nH,neL,I.nofs hDa0,fun v z=>nomatch z⟩
 have szk:s.heap.objs.size≤(h3.push (seqObj "tuple" us.toArray 0)).objs.size:=le_of_lt (Nat.lt_of_le_of_lt hDa0 (Heap.lt_size (get?_push_of_some _ hD3)))
 have hkS:H (h3.push (seqObj "tuple" us.toArray 0)).objs.size=none:=I.hok.fresh szk
 have I3:=I2.laid (t':=s.toks) (a:=(h3.push (seqObj "tuple" us.toArray 0)).objs.size) (o:=.lst []) (h':=(h3.push (seqObj "tuple" us.toArray 0)).push (seqObj "list" #[] 0)) (fun b u q=>get?_push_of_some _ q) (le_refl _) ⟨zero_le _,[],0,.nil,Heap.get?_push_size _ rfl⟩
 generalize hkk:(h3.push (seqObj "tuple" us.toArray 0)).objs.size=kS at hkS I3
 have h0D:X.s₀.heap.objs.size≤Da:=le_trans I.sz hDa0
 unfold ksk_rest
 refine wpAny_bind (wpAny_rule ?_)
 first
  | rw[List.forIn_toArray]
  | (rw[← Array.forIn_toList];simp only[List.toList_toArray])
 refine wpAny_bind (ksk_fold (fun i s'=>∃F2 Hm kvs,Ext F H F2 Hm∧Hm kS=none∧Inv X (pins++[(Da,seqObj "list" #[] e1)]) σ (upd Hm kS (.lst kvs)) s'∧Reps X.K F2 ((kz.take i).map fun k=>D.tup (k.map D.int)) kvs) us 0 _
  ⟨F,H,[],Ext.refl fh,hkS,I3,by simpa using Reps.nil⟩ ?step ?done)
 case step=>
  rintro j x s' hx ⟨F2,Hm,kvs,x2,hm,I4,rk⟩
  simp only[zero_add] at rk ⊢
  have hj:j<us.length:=(List.getElem?_eq_some_iff.mp hx).1
  obtain⟨d,hd⟩:∃d,ds[j]?=some d:=⟨_,getElem?_eq_getElem (by lia)⟩
  obtain⟨k,hkj⟩:∃k,kz[j]?=some k:=⟨_,getElem?_eq_getElem (by lia)⟩
  obtain⟨v,hv,rd⟩:=rs.get hd
  obtain⟨u,hu,ru⟩:=rv.get hv
  rw[hx] at hu;cases hu
  have xo:Ext F2 Hm F2 (upd Hm kS (.lst kvs)):=Ext.open x2.fh hm
  refine wpAny_bind (wpAny_attempt (wpAny_mono (key j d k hd hkj _ s' F2 _ v x (fun kv H''=>∃F'',Ext F2 (upd Hm kS (.lst kvs)) F'' H''∧Rep X.K F'' (.tup (k.map D.int)) kv) I4 (fun p hp=>mem_append_left _ hp) (x2.trans xo) (rd.mono x2.ff) ru (fun kv F'' H'' y r=>⟨F'',y,r⟩)) (fun kval s'' hk''=>?_) fun _ _ z=>z.elim))
  obtain⟨kv,H'',I5,rkv,F'',x5,rp⟩:=hk''
  have hkS5:H'' kS=some (.lst kvs):=x5.hh _ _ zn
  obtain⟨z1,its,n,rki,ek⟩:=I5.hok kS _ hkS5
  have lk:kvs.length=j:=by
   rw[← rk.length,length_map,List.length_take];lia
  have li:its.length=j:=by rw[← rki.length];exact lk
  have I6:=Inv.relist (g:=(·.push kval)) I5 hkS5 ek (ws:=its++[kval]) (by simp) (rki.append (.cons rkv .nil)) (by rw[length_append,lk];exact le_of_lt (xi (by simp;lia)))
  obtain⟨y1,y2⟩:=Y1 x2 hm x5
  try dsimp only
  refine wpAny_bind (listUpdate_at ek rfl ?_ (by rw[size_toArray,li];exact le_of_lt (xi (by lia))) ?_)
  ·refine wpAny_pure ⟨rfl,F'',wS H'' kS,kvs++[kv],y1,uK _ _,by rw[Yf];exact I6,?_⟩
   have tk:kz.take (j+1)=kz.take j++[k]:=by
    rw[List.take_add_one,hkj];rfl
   rw[tk,map_append]
   exact(rk.mono x5.ff).append (Reps.cons rp Reps.nil)
  ·rw[Array.size_push,size_toArray,li];exact le_trans (le_of_lt (xi (by lia))) (le_succ _)
 case done=>
  rintro s' ⟨F2,Hm,kvs,x2,hm,I4,rk⟩
  simp only[zero_add] at rk
  rw[take_of_length_le (by lia)] at rk
  obtain⟨z1,ks,n,rki,ek⟩:=I4.hok kS _ zn
  refine wpAny_bind (listItems_at ek rfl ?_)
  have xo:Ext F2 Hm F2 (upd Hm kS (.lst kvs)):=Ext.open x2.fh hm
  refine zh5 I4 zn ek rki xo.fh rk ne nd hk (rs.mono x2.ff) rv (by lia) h0D cellD pinD fun s5 ovs J ro=>?_
  refine⟨_,rfl,wpAny_pure ⟨_,rfl,.ref Da,_,J,rfl,hQ Da (upd F2 Da (.lst ovs)) _ ?_ ?_⟩⟩
  ·have hmD:Hm Da=none:=by
    obtain⟨_,nD,_⟩:=I4.pin (Da,seqObj "list" #[] e1) (by simp)
    by_cases z:Da=kS
    ·rw[z];exact hm
    ·rw[zi z] at nD;exact nD
   have eq1:upd (upd (upd Hm kS (.lst kvs)) kS (.lst [])) Da (.lst ovs)=upd (upd Hm kS (.lst [])) Da (.lst ovs):=by
    congr 1;funext b;unfold upd;split <;> rfl
   rw[eq1]
   have kD:(upd Hm kS (.lst [])) Da=none:=by
    obtain⟨_,nD,_⟩:=I4.pin (Da,seqObj "list" #[] e1) (by simp)
    by_cases z:Da=kS
    ·rw[z,zn] at nD;cases nD
    ·rw[zi z];exact hmD
   exact(x2.trans (Ext.open (o:=.lst []) x2.fh hm)).trans (Ext.new ((x2.trans (Ext.open (o:=.lst []) x2.fh hm)).fh) kD)
  ·have hF:F2 Da=none:=by
    obtain⟨_,nD,_⟩:=I4.pin (Da,seqObj "list" #[] e1) (by simp)
    exact zH xo.fh nD
   simp only[Rep]
   exact⟨Da,ovs,rfl,zn,ro.mono (z7 hF)⟩
end
open PySem.W
noncomputable def _root_.L2.Cx.lam(X:Cx)(scope:Scope)(N:List Str)(s:Shared)(H:Hp)(qual:Str)(f:Addr)(cd:Value):Cx:=
 { prog:=X.prog,w:=X.w,K:=X.K,mg:=X.mg,base:=X.base,A:=X.A.in1.in1.deeper (envX qual scope s.heap.objs.size f cd (xW scope X.env)),N:=N,s₀:=s,H₀:=H,env:=envX qual scope s.heap.objs.size f cd (xW scope X.env),outer:=X.stack,
   stack:=envX qual scope s.heap.objs.size f cd (xW scope X.env)::X.stack,ex:=[],fn:=fun _=>false,calm:=true,pn:=[],xe:=fun _ _=>False }
section
variable{X:Cx}{scope:Scope}{N':List Str}{pins:List (Addr×Obj)}{σ σ':St}{F H:Hp}{τ:DS}{s:Shared}
theorem Le{h1:Heap}{t:Nat}{qual p:Str}{f:Addr}{cd u:Value}{v:V}(S:xF X scope)(hd:X.A.handled=none)(I:Inv X pins σ H s)(hp:scope.names.lookup p=some .local)(hN:N'[0]?=some p)(rv:RelV v u)
  (hn:h1.Ns s.heap.objs.size fun x=>([(p,u)]:List (Str×Value)).reverse.lookup x) (hsb:∀b o,s.heap.get? b=some o→h1.get? b=some o) (hl:σ'.length=N'.length) (h0:σ'[0]?=some (some v))
  (hσ:∀(i:Nat) (v:V),i≠0→σ'[i]?=some (some v)→∃(x:Str) (j:Nat),N'[i]?=some x∧X.N[j]?=some x∧σ[j]?=some (some v)∧scope.names.lookup x=some .free) :
  Inv (X.lam scope N' s H qual f cd) [] σ' H { s with heap:=h1,toks:=t }:=by
 have hH:H s.heap.objs.size=none:=I.hok.fresh (le_refl _)
 have cl:∀{x c},(xW scope X.env).lookup x=some c→X.env.cells.lookup x=some c:=fun h=>ZA S I.ok h
 have kept:∀{c v},s.heap.IsCell c v→h1.IsCell c v:=fun ⟨o,e,d⟩=>⟨o,hsb _ o e,d⟩
 have noA:∀b:Addr,b∉(X.lam scope N' s H qual f cd).ex:=fun b z=>absurd (show b∈([]:List Addr) from z) (by simp)
 refine⟨⟨I.ok.mod,S.kind,rfl,rfl,le_refl _,fun x y c e1 e2=>I.ok.inj x y c (cl e1) (cl e2),fun x hx=>?_,fun x c hf _=>absurd hf (by simp[Cx.lam]),fun _=>hd,Around.frames_deeper (show X.A.in1.in1.frames=some X.stack from I.ok.frames),.inr ⟨rfl,rfl⟩,fun b z=>absurd z (noA b),I.bs,le_trans I.ok.bsz I.sz,fun b _ _=>noA b,fun b z=>absurd z (noA b),I.stack,I.stkFree⟩,
  I.os.symm ▸ rfl,I.bare,Un.kept hsb,⟨_,hn,fun i x v' e1 e2 e3=>?_⟩,fun x c e=>?_,hH,fun x c e=>I.freeC x c (cl e),fun p hp=>absurd (show p∈([]:List (Addr×Obj)) from hp) (by simp),I.hok.kept hsb,hl⟩
 ·have hx:scope.names.lookup x=some .cell∨scope.names.lookup x=some .free:=hx
  rcases hx with z|z
  ·exact absurd rfl (S.nocell _ (PySem.mem_of_lookup z))
  ·exact uO (.inl ⟨_,PySem.mem_of_lookup z,rfl,rfl⟩)
 ·have e1:N'[i]?=some x:=e1
  by_cases hi:i=0
  ·subst hi
   rw[hN] at e1;cases e1
   rw[h0] at e2;cases e2
   exact⟨u,rv,.inl ⟨hp,by simp[List.lookup]⟩⟩
  ·obtain⟨x',j,e4,e5,e6,e9⟩:=hσ i v' hi e2
   have hy:=PySem.mem_of_lookup e9
   rw[e1] at e4;cases e4
   have kd:=S.free _ hy rfl
   obtain⟨m,hm,hl⟩:=I.loc
   obtain⟨u',ru,lk⟩:=hl j x v' e5 e6 (kd.elim (fun z=>.inr (.inl z)) fun z=>.inr (.inr z))
   refine⟨u',ru,?_⟩
   rcases lk with ⟨z,_⟩|⟨z,c,hc,hcell⟩
   ·rcases kd with k|k <;> rw[k] at z <;> cases z
   ·obtain⟨c',hc'⟩:=uO (env:=X.env) (names:=scope.names) (cs:=[]) (x:=x) (.inl ⟨_,hy,rfl,rfl⟩)
    have:=cl hc'
    rw[hc] at this;cases this
    exact .inr ⟨.inr e9,c,hc',kept hcell⟩
 ·obtain⟨v,z⟩:=I.cell x c (cl e)
  exact⟨v,kept z⟩
noncomputable def Qo(idx:List Nat)(fb:FE)(τ:DS)(d:D):Rs D:=fb ((vC 1 idx τ).set 0 (some (.val d)))
theorem G5{f c':Addr}{qual p:Str}{params:Arguments}{body:Expr}{pm ctv u:Value}{v:V}{d dk:D}{fr:List Str}{idx:List Nat}{fb:FE}{Q:VK}(S:xF X scope)(hr:Room 3 X.A)(hfr:FreeOk scope X.N fr idx)(hp:scope.names.lookup p=some .local)
  (hco:scope.isCoroutine=false) (hgen:scope.isGenerator=false) (hbind:∀(pm cd ct:Value) (cl:List (Str×Addr)) (u:Value),bindArgs (kla_fn "<lambda>" qual params body scope cl pm cd ct) ⟨[u],[]⟩=pure [(p,u)])
  (hb:∀s H f cd,PDE (X.lam scope (p::fr) s H qual f cd) body fb)
  (I:Inv X pins σ H s) (R:RV X.K F τ σ H) (ho:s.heap.get? f=some (kla_obj "<lambda>" qual params body scope (xW scope X.env) pm c' ctv)) (hc:H c'=some (.ext (Y7 c' qual))) (rd:Rep X.K F d v) (ru:RelV v u) (hk:Qo idx fb τ d=.ok dk)
  (hQ:∀kv F1 H1,Ext F H F1 H1→Rep X.K F1 dk kv→Q kv H1):wpAny (model X.prog X.w) X.A.in1.in1 (call (.ref f) [u]) (EP X pins σ Q) (fun _ _=>False) s:=by
 have hcd:s.heap.CodeRec (.ref c') qual:=(I.hok c' _ hc).1
 refine wpAny_call (kla_callFunE (args:=⟨[u],[]⟩) (hr.in1.in1).depth ho rfl hco hgen rfl hcd ?_)
 rw[hbind]
 refine wpAny_pure (wpAny_newFunctionEnv S.nocell (fun y hy=>?_) (fun h1 hns hsb=>⟨(I.mod.nolimit.keeps I.bk).fresh _ hsb,?_⟩) S.kind)
 ·have:y=(p,u):=by simpa using hy
  subst this;exact hp
 have keep3:∀b o,s.heap.get? b=some o→h1.get? b=some o:=fun b o e=>hsb.extBut b o (ne_of_lt (Heap.lt_size e)) (get?_push_of_some _ e)
 show codeAny _ _ (.expr body (envX qual scope s.heap.objs.size f (.ref c') (xW scope X.env))) _ _
 have hlen:(wv 1 idx σ).length=(p::fr).length:=by simp[wv,hfr.len]
 have hl0:0<(wv 1 idx σ).length:=by rw[hlen];simp
 have J:Inv (X.lam scope (p::fr) s H qual f (.ref c')) [] ((wv 1 idx σ).set 0 (some v)) H { s with heap:=h1,toks:=s.toks+([(p,u)]:List (Str×Value)).length }:=
  Le S hr.hd I hp rfl ru hns keep3 (by rw[length_set];exact hlen) (by rw[getElem?_set_self hl0]) fun i v' hi e=>by
   rw[getElem?_set_ne (Ne.symm hi)] at e
   exact jM (tn:=[p]) hfr σ i v' e
 refine kla_codeExpr (wpAny_mono (hb s H f (.ref c') [] _ _ H (fun kv H1=>∃F1,Ext F H F1 H1∧Rep X.K F1 dk kv) J ⟨F,(vC 1 idx τ).set 0 (some (.val d)),(Wo 1 idx R).set rd,?_⟩) (fun w s5 h5=>?_) fun _ _ z=>z.elim)
 ·have hk:fb ((vC 1 idx τ).set 0 (some (.val d)))=.ok dk:=hk
  rw[hk]
  exact fun kv F1 H1 x r=>⟨F1,x,r⟩
 ·obtain⟨kv,H5,I5,r5,F5,x5,rk⟩:=h5
  exact⟨kv,H5,I.call' (ch:=[]) I5.os I5.base I5.hok I5.bare (fun b z=>absurd z (by simp)),r5,hQ kv F5 H5 x5 rk⟩
end
open PySem.W
noncomputable def TabsU:Prop:=∀r∈Tabs.rows,∀r'∈Tabs.rows,r.1=r'.1→r=r'
theorem YJ{α β:Type}{f:α→β}:∀{l:List α},(l.map f).Nodup→∀r∈l,∀r'∈l,f r=f r'→r=r'
 |[],_,_,h,_,_,_=>by cases h
 |a::l,nd,r,h,r',h',e=>by
  rw[map_cons,nodup_cons] at nd
  rcases mem_cons.mp h with z|z
  ·rcases mem_cons.mp h' with z' | z'
   ·rw[z,z']
   ·rw[z] at e
    exact absurd (mem_map.mpr ⟨r',z',e.symm⟩) nd.1
  ·rcases mem_cons.mp h' with z' | z'
   ·rw[z'] at e
    exact absurd (mem_map.mpr ⟨r,z,e⟩) nd.1
   ·exact YJ nd.2 r z r' z' e
theorem TabsU.of(h:(Tabs.rows.map (·.1)).Nodup):TabsU:=YJ h
section
variable{X:Cx}{scope:Scope}{pins:List (Addr×Obj)}{σ:St}{F H:Hp}{τ:DS}{s:Shared}
theorem G4{params:Arguments}{body:Expr}{lpos:Pos}{P c:Addr}{E:Value→Shared→Prop}{Q:Value→Shared→Prop}(tu:TabsU)(S:xF X scope)(bm:BM X.mg X.base)(hcode:X.env.code=.ref c)(hcd:codeHdIn X.K c P=true)(hrow:(P,lpos.line,lpos.col,X.env.qual ++ "<lambda>")∈Tabs.rows)
  (hdef:defaultsOf params X.env=([],[])) (I:Inv X pins σ H s) (fh:Same F H) (tt:TbT F H)
  (h:∀(f c':Addr) (pm ctv:Value) (H':Hp) (s':Shared),Inv X (pins++[(f,kla_obj "<lambda>" (X.env.qual ++ "<lambda>") params body scope (xW scope X.env) pm c' ctv)]) σ H' s'→Ext F H F H'→H' c'=some (.ext (Y7 c' (X.env.qual ++ "<lambda>")))→Q (.ref f) s') :
  wpAny (model X.prog X.w) X.A (eval (.Lambda params body scope lpos) X.env) Q E s:=by
 obtain⟨bma,ob,b1,b2,b3,b4,b5,b6⟩:=bm
 obtain⟨b3,bH⟩:=I.bs _ _ b3
 have hgs:s.heap.Ns mainGlobals X.mg:=I.mod.glob.keeps I.bk
 have C:CodeHd s.heap c P:=codeHd_of_K (I.mod.kin.keeps I.bk) hcd
 have hcl:closureFor scope X.env=pure (xW scope X.env):=vK fun y hy e=>by
  obtain⟨c,hc⟩:=I.ok.has _ (S.free y hy e)
  rw[hc];rfl
 have hbG:bma≠mainGlobals:=fun q=>by
  obtain⟨o,es,ep,e,hd,_⟩:=hgs
  rw[← q,b3] at e;cases e;rw[b6] at hd;cases hd
 obtain⟨tF,tt0⟩:=tt.1 _ hrow
 have hPs:∃ps,H P=some (.tbl ps):=by
  rcases tt0 with e|⟨c',e,_⟩
  ·exact⟨_,e⟩
  ·exact⟨_,e⟩
 obtain⟨ps0,hP0⟩:=hPs
 have hbP:bma≠P:=fun q=>by rw[q,hP0] at bH;cases bH
 have B:s.heap.BuiltinsAt X.mg P:=⟨bma,ob,b1,b2,hbG,hbP,b3,b4,b5,b6⟩
 refine kla_eval hdef ?_
 rcases tt0 with e|⟨c',e,ec⟩
 ·-- the first time
  have e:H P=some (.tbl #[]):=e
  have hP:s.heap.get? P=some (tabObj #[]):=I.hok P _ e
  have hgP:mainGlobals≠P:=fun q=>by
   obtain⟨o,es,ep,e',hd,_⟩:=hgs
   rw[q,hP] at e';cases e';cases hd
  refine kla_makeFunction (mg:=X.mg) hcl I.ok.glob hgs hcode C hP trivial rfl hgP B fun c' ctv h' tk hx hge hlt hrec htb=>?_
  have hc0:H c'=none:=I.hok.fresh hge
  have hPc:P≠c':=fun z=>by rw[z,hc0] at e;cases e
  have hsz:s.heap.objs.size≤h'.objs.size:=le_trans hge (le_of_lt hlt)
  have htb:h'.get? P=some (tabObj #[rawInt lpos.line,rawInt lpos.col,.ref c']):=by simpa using htb
  let H':Hp:=upd (upd H P (.tbl #[rawInt lpos.line,rawInt lpos.col,.ref c'])) c' (.ext (Y7 c' (X.env.qual ++ "<lambda>")))
  have hne:∀b,b≠P→b≠c'→H' b=H b:=fun b z1 z2=>by show upd (upd H P _) c' _ b=H b;rw[zi z2,zi z1]
  have hP':H' P=some (.tbl #[rawInt lpos.line,rawInt lpos.col,.ref c']):=by show upd (upd H P _) c' _ P=_;rw[zi hPc,zn]
  have hc':H' c'=some (.ext (Y7 c' (X.env.qual ++ "<lambda>"))):=zn
  let fo:Obj:=kla_obj "<lambda>" (X.env.qual ++ "<lambda>") params body scope (xW scope X.env) ((X.mg "__name__").getD .none) c' ctv
  have kp:∀b o,b≠P→s.heap.get? b=some o→(h'.push fo).get? b=some o:=fun b o z q=>get?_push_of_some _ (hx b o z q)
  have nc:∀b o,s.heap.get? b=some o→b≠c':=fun b o q=>ne_of_lt (lt_of_lt_of_le (Heap.lt_size q) hge)
  have nP:∀b,H b=none→b≠P:=fun b q z=>by rw[z,e] at q;cases q
  have J:Inv X pins σ H' { s with heap:=h'.push fo,toks:=tk }:=by
   refine I.un (t':=tk) ⟨fun b o q n _ _=>kp b o (nP b n) q,fun b o q n _ _=>⟨o.slots,kp b o (nP b n) q⟩,fun b o q n _=>by rw[hne b (nP b n) (nc b o q)];exact n,fun b o q _=>?_,fun b xs q=>?_,fun b o u q=>?_,fun b ps q=>?_⟩ fun b u q=>?_
   ·by_cases z:b=P
    ·subst z;exact⟨_,get?_push_of_some _ htb⟩
    ·exact⟨o,kp b o z q⟩
   ·rw[hne b (fun z=>by rw[z,e] at q;cases q) (fun z=>by rw[z,hc0] at q;cases q)];exact q
   ·rw[hne b (fun z=>by rw[z,e] at q;cases q) (fun z=>by rw[z,hc0] at q;cases q)];exact q
   ·by_cases z:b=P
    ·subst z
     rw[e] at q;cases q
     exact⟨#[rawInt lpos.line,rawInt lpos.col,.ref c'],by rw[hP'];simp⟩
    ·exact⟨#[],by rw[hne b z (fun z=>by rw[z,hc0] at q;cases q),q];simp⟩
   ·by_cases z2:b=c'
    ·subst z2
     rw[hc'] at q;cases q
     have hr2:(h'.push fo).CodeRec (.ref b) (X.env.qual ++ "<lambda>"):=by
      obtain⟨c2,oc,vs,t,g1,g2,g3,g4⟩:=hrec
      exact⟨c2,oc,vs,t,g1,get?_push_of_some _ g2,g3,g4⟩
     refine⟨hr2,?_,fun h1 h2 g k=>?_⟩
     ·obtain⟨c2,oc,vs,t,g1,g2,g3,g4⟩:=hr2
      cases g1
      exact⟨oc,g2⟩
     ·obtain⟨c2,oc,vs,t,g1,g2,g3,g4⟩:=g
      cases g1
      exact⟨_,oc,vs,t,rfl,k _ g2,g3,g4⟩
    ·by_cases z:b=P
     ·subst z
      rw[hP'] at q;cases q
      exact get?_push_of_some _ htb
     ·rw[hne b z z2] at q
      refine(I.hok b u q).stay (fun d v hd qd=>kp d v ?_ qd) (fun d qd=>?_) fun d xs qd=>?_
      ·rcases hd with y|y
       ·rw[y];exact z
       ·exact fun y'=>by rw[y',e] at y;cases y
      ·rw[hne d (fun y=>by rw[y,e] at qd;cases qd) (fun y=>by rw[y,hc0] at qd;cases qd)];exact qd
      ·rw[hne d (fun y=>by rw[y,e] at qd;cases qd) (fun y=>by rw[y,hc0] at qd;cases qd)];exact qd
  have hfz:s.heap.objs.size≤h'.objs.size:=hsz
  have nf:H' h'.objs.size=none:=by
   rw[hne _ (ne_of_gt (lt_of_lt_of_le (Heap.lt_size hP) hfz)) (ne_of_gt hlt)]
   exact I.hok.fresh hfz
  refine h h'.objs.size c' ((X.mg "__name__").getD .none) ctv H' _ (J.pins_of fun q hq=>?_) ⟨Same.refl F,fun b o q=>?_,fun b o q=>?_,fun _ _ q=>.inl q,fun t=>⟨fun r hr=>?_,fun d b q=>?_⟩⟩ hc'
  ·rcases mem_append.mp hq with hq|hq
   ·exact J.pin q (mem_append_right _ hq)
   ·have:q=(h'.objs.size,fo):=by simpa using hq
    subst this
    exact⟨Heap.get?_push_size _ rfl,nf,(ne_of_lt (lt_of_lt_of_le I.lt hfz)).symm,I.nofs hfz,fun v z=>nomatch z⟩
  ·by_cases z:b=P
   ·subst z;rw[e] at q;cases q;exact⟨_,hP'⟩
   ·exact .of (by rw[hne b z (fun z=>by rw[z,hc0] at q;cases q)];exact q)
  ·have q':=fh b o q
   rw[hne b (fun z=>by rw[z,show F P=none from tF] at q;cases q) (fun z=>by rw[z,hc0] at q';cases q')]
   exact q'
  ·by_cases z:r.1=P
   ·obtain rfl:=tu r hr _ hrow z
    exact⟨tF,.inr ⟨c',hP',hc'⟩⟩
   ·obtain⟨t1,t2⟩:=t.1 r hr
    refine⟨t1,?_⟩
    rcases t2 with q|⟨c2,q,q2⟩
    ·exact .inl (by rw[hne _ z (fun z=>by rw[z,hc0] at q;cases q)];exact q)
    ·exact .inr ⟨c2,by rw[hne _ z (fun z=>by rw[z,hc0] at q;cases q)];exact q,by rw[hne _ (fun z=>by rw[z,e] at q2;cases q2) (fun z=>by rw[z,hc0] at q2;cases q2)];exact q2⟩
  ·have q:H d=some (.own b):=by
    by_cases z2:d=c'
    ·rw[z2,hc'] at q;cases q
    ·by_cases z:d=P
     ·rw[z,hP'] at q;cases q
     ·rw[hne d z z2] at q;exact q
   obtain⟨C,dx,vs,q2⟩:=t.2 d b q
   exact⟨C,dx,vs,by rw[hne b (fun z=>by rw[z,e] at q2;cases q2) (fun z=>by rw[z,hc0] at q2;cases q2)];exact q2⟩
 ·-- again
  have e:H P=some (.tbl #[rawInt lpos.line,rawInt lpos.col,.ref c']):=e
  have hP:s.heap.get? P=some (tabObj #[rawInt lpos.line,rawInt lpos.col,.ref c']):=I.hok P _ e
  refine kla_makeFunctionHit (mg:=X.mg) (cv:=.ref c') hcl I.ok.glob hgs hcode C hP trivial (codeAmong_snoc (c:=.ref c') [] trivial rfl) B fun ctv h' tk hk hsz=>?_
  let fo:Obj:=kla_obj "<lambda>" (X.env.qual ++ "<lambda>") params body scope (xW scope X.env) ((X.mg "__name__").getD .none) c' ctv
  have J:Inv X pins σ H { s with heap:=h'.push fo,toks:=tk }:=I.kept (t':=tk) fun b u q=>get?_push_of_some _ (hk b u q)
  refine h h'.objs.size c' ((X.mg "__name__").getD .none) ctv H _ (J.pins_of fun q hq=>?_) (Ext.refl fh) ec
  rcases mem_append.mp hq with hq|hq
  ·exact J.pin q (mem_append_right _ hq)
  ·have:q=(h'.objs.size,fo):=by simpa using hq
   subst this
   exact⟨Heap.get?_push_size _ rfl,I.hok.fresh hsz,(ne_of_lt (lt_of_lt_of_le I.lt hsz)).symm,I.nofs hsz,fun v z=>nomatch z⟩
noncomputable def wZ(idx:List Nat)(fb:FE)(τ:DS):List D→Rs (List D)
 |[]=>.ok []
 |d::r=>match Qo idx fb τ d with
  |.ok k=>match wZ idx fb τ r with
   |.ok ks=>.ok (k::ks)
   |_=>.no
  |_=>.no
theorem ZK{idx:List Nat}{fb:FE}{τ:DS}:∀{ds ks:List D},wZ idx fb τ ds=.ok ks→ks.length=ds.length∧∀(i:Nat) (d k:D),ds[i]?=some d→ks[i]?=some k→Qo idx fb τ d=.ok k
 |[],ks,h=>by cases h;exact⟨rfl,fun i d k e=>by simp at e⟩
 |d::r,ks,h=>by
  unfold wZ at h
  cases q:Qo idx fb τ d with
  |no=>rw[q] at h;cases h
  |ex c=>rw[q] at h;cases h
  |ok k=>
   rw[q] at h
   simp only at h
   cases q2:wZ idx fb τ r with
   |no=>rw[q2] at h;cases h
   |ex c=>rw[q2] at h;cases h
   |ok ks'=>
    rw[q2] at h;cases h
    obtain⟨l,g⟩:=ZK q2
    refine⟨by simp[l],fun i d' k' e1 e2=>?_⟩
    cases i with
    |zero=>simp at e1 e2;subst e1;subst e2;exact q
    |succ i=>exact g i d' k' (by simpa using e1) (by simpa using e2)
noncomputable def Zg(ks ds:List D):Rs D:=match ZL ks with
 |some kz=>if ds.length<64∧kz.Nodup∧(∀k∈kz,k≠[]) then .ok (.lst ((xM (kz.zip ds)).map (·.2))) else .no
 |none=>.no
noncomputable def Y4(idx:List Nat)(fe fb:FE):FE:=fun τ=>(fe τ).bind fun d=>match d with
 |.lst ds=>match wZ idx fb τ ds with
  |.ok ks=>Zg ks ds
  |_=>.no
 |_=>.no
theorem JY{X:Cx}{ks ds:List D}{P:D→Prop}(h:Ok X (Zg ks ds) P):∃kz:List (List Int),ks=kz.map (fun k=>D.tup (k.map D.int))∧ds.length<64∧kz.Nodup∧(∀k∈kz,k≠[])∧P (.lst ((xM (kz.zip ds)).map (·.2))):=by
 unfold Zg at h
 cases q:ZL ks with
 |none=>rw[q] at h;exact h.elim
 |some kz=>
  rw[q] at h
  simp only at h
  by_cases z:ds.length<64∧kz.Nodup∧(∀k∈kz,k≠[])
  ·rw[if_pos z] at h
   exact⟨kz,Vz q,z.1,z.2.1,z.2.2,h⟩
  ·rw[if_neg z] at h;exact h.elim
theorem J9{x p:Str}{pp pos lpos kp:Pos}{e body:Expr}{params:Arguments}{fr:List Str}{idx:List Nat}{fe fb:FE}{P c:Addr}(hg:Gl X x)(hm:X.mg x=none)(hv:bootBuiltins x=some (.builtin "sorted"))(he:PDE X e fe)
  (hr:Room 3 X.A) (tu:TabsU) (bm:BM X.mg X.base) (hcode:X.env.code=.ref c) (hcd:codeHdIn X.K c P=true) (hrow:(P,lpos.line,lpos.col,X.env.qual ++ "<lambda>")∈Tabs.rows)
  (hsc:uf X.env.scope scope=true) (hfr:FreeOk scope X.N fr idx) (hp:scope.names.lookup p=some .local) (hco:scope.isCoroutine=false) (hgen:scope.isGenerator=false)
  (hbind:∀(pm cd ct:Value) (cl:List (Str×Addr)) (u:Value),bindArgs (kla_fn "<lambda>" (X.env.qual ++ "<lambda>") params body scope cl pm cd ct) ⟨[u],[]⟩=pure [(p,u)])
  (hb:∀s H f cd,PDE (X.lam scope (p::fr) s H (X.env.qual ++ "<lambda>") f cd) body fb) (hdef:defaultsOf params X.env=([],[]):=by rfl)
  (hn:x ≠ "__name__" := by decide) (hdb:(x==("__debug__" : Str))=false:=by decide) (h1:starEach [e] X.env=(false,eval e X.env)::starEach [] X.env:=by rfl) :
  PDE X (.Call (.Name x pp) [e] [⟨some "key", .Lambda params body scope lpos,kp⟩] pos) (Y4 idx fe fb):=by
 rintro pins s σ H Q I ⟨F,τ,R,hq⟩
 have S:xF X scope:=wt hsc
 refine wpAny_Call_Name_kw (uI I hg hm hv ?_ hn hdb)
 refine callWith_kw ?_ (by rw[h1];rfl) (by rw[h1];rfl)
 have hqb:=hq.bind
 have ha:PDA X [e] (za fe zj):=zc he zk (by rw[h1])
 refine thn (ha pos pins s σ H (fun vs H1=>∃F1 d v,vs=[v]∧Ext F H F1 H1∧Rep X.K F1 d v∧fe τ=.ok d) I ⟨F,τ,R,?_⟩) fun us s1 hA=>?_
 ·unfold za zj
  cases z:fe τ with
  |no=>rw[z] at hqb;exact hqb.elim
  |ex cc=>rw[z] at hqb;exact hqb
  |ok d=>
   intro vs F1 H1 x1 rr
   obtain⟨v,rfl,rd⟩:=Reps.one rr
   exact⟨F1,d,v,rfl,x1,rd,rfl⟩
 obtain⟨vs,H1,I1,rvs,F1,d,v,rfl,x1,rd,ed⟩:=hA
 obtain⟨u,rfl,ru⟩:=Vals.one rvs
 rw[ed] at hqb
 have hqb:Ok X (match d with
  |.lst ds=>match wZ idx fb τ ds with
   |.ok ks=>Zg ks ds
   |_=>.no
  |_=>.no) (Ev X.K F H Q):=hqb
 cases d with
 |lst ds=>
  simp only at hqb
  cases z:wZ idx fb τ ds with
  |no=>rw[z] at hqb;exact hqb.elim
  |ex cc=>rw[z] at hqb;exact hqb.elim
  |ok ks=>
   rw[z] at hqb
   obtain⟨kz,ek,h64,nd,ne,hq⟩:=JY (X:=X) hqb
   obtain⟨lk,hkeys⟩:=ZK z
   simp only[Rep] at rd
   obtain⟨l,ws,rfl,hF1,rs⟩:=rd
   obtain rfl:u=Value.ref l:=ru
   refine kws_cons ?_
   refine G4 (P:=P) (c:=c) tu S bm hcode hcd hrow hdef I1 x1.fh (x1.tt R.tt) fun f c' pm ctv H2 s2 I2 x2 hc2=>?_
   refine kws_nil ?_
   have R2:RV X.K F1 τ σ H2:=(R.ext x1).ext x2
   refine wpAny_mono (V3 (E:=X.xe) (Q:=Q) (F:=F1) (kz:=kz) I2 x2.fh hF1 rs h64 (by rw[← lk,ek,length_map]) nd ne (fun i d k hd hk pins' s' F' H' v u Q' I' hpin x' rd' ru' hQ'=>?_) fun Da F' H' x' r'=>?_) (fun w s3 ⟨v3,H3,I3,r3,q3⟩=>⟨v3,H3,I3.pins_of fun q hq=>I3.pin q (mem_append_right _ (mem_append_left _ hq)),r3,q3⟩) fun _ _ z=>z
   ·refine G5 S hr hfr hp hco hgen hbind hb I' (R2.ext x') (I'.pin _ (mem_append_right _ (hpin _ (mem_append_right _ (List.mem_singleton.mpr rfl))))).1 (x'.hh _ _ hc2) rd' ru' (hkeys i d _ hd ?_) hQ'
    rw[ek,getElem?_map,hk];rfl
   ·exact hq _ F' H' ((x1.trans x2).trans x') r'
 |_=>exact hqb.elim
end
section
variable{prog:Program}{w:World}{A:Around}{R:Result→Shared→Prop}{E:Value→Shared→Prop}{I S:Addr}{fp wr:List Addr}{n:Nat}{P:Nat→Value→Prop}{St:Nat→Heap→Prop}{kw:List (Str×Value)}
end
variable[Tabs]
section
variable{X:Cx}{pos pp kp:Pos}{e e2:Expr}{fe f2:FE}
end
section
variable{K:Frag}{B Z F H:Hp}{τ:DS}{σ:St}
end
section
variable{X:Cx}{pos:Pos}{e tg:Expr}{st:Stmt}{ss:List Stmt}{fe:FE}{fs:FA}{f:FS}
noncomputable def scal:D→Bool
 |.non=>true
 |.bl _=>true
 |.int _=>true
 |.str _=>true
 |_=>false
end
open PySem.W
noncomputable def Zk(a:Addr)(e1:Nat)(st:SortSt):Sem PySem.Fin:=do
 let srt:=(arrOf st).map (·.2)
 let touched:=(← seqEpoch a) != e1
 Builtin.List.listUpdate (.ref a) (fun _=>srt)
 if let some e:=failedOf st then rule "list.sort.comparison-raised"; (throw e)
 if touched then rule "list.sort.modified"; (raiseError "ValueError" "list modified during sort")
 ret .none
section
variable{X:Cx}{pins:List (Addr×Obj)}{σ:St}{F H:Hp}{τ:DS}{s:Shared}{Q:VK}{E:Value→Shared→Prop}
end
open PySem.W
structure UJ(K:Frag)(mg:Str→Option Value)(x:Str)(st:Stmt)(f c T:Addr):Prop where
 ex:∃(oc:Value) (od:Option Addr) (kV doc pm:Value) (an:Option Addr) (ct:Value) (osl:Array (Option Value)),K.lookup f=some ⟨oc,od,.func (fnOf x x (zI st) (zB st) (zh st) .none kV doc pm an (.ref c) ct),osl⟩
 cd:codeIn K (.ref c) x=true
 kp:keepIn K (.ref f)=true
 at_:mg x=some (.ref f)
 tab:codeHdIn K c T=true
section
variable{P:Program}{w:World}{K:Frag}{mg:Str→Option Value}{base:Heap}
theorem DefOk.mkL{x:Str}{st:Stmt}{f c T:Addr}{N ps:List Str}{k n:Nat}{fb:FS}(D:UJ K mg x st f c T)(S:zJ N ps (zh st))(hn:ps.length=n)
  (hb:∀(kV doc pm:Value) (an:Option Addr) (cdv ct:Value) (us:List Value),us.length=ps.length→bindArgs (fnOf x x (zI st) (zB st) (zh st) .none kV doc pm an cdv ct) ⟨us,[]⟩=pure (ps.zip us))
  (hbody:∀(A:Around) (outer:List Env) (s:Shared) (H:Hp) (E:XK),Room k (A.deeper (envOfC x (zh st) s.heap.objs.size f (.ref c))) →
   uk (j5 CX0 P w K mg base N x (zh st) f (.ref c) A outer s H E).nox (zB st) fb):DefOk P w K mg base x (k+1) n ps (xG N.length fb):=by
 obtain⟨oc,od,kV,doc,pm,an,ct,osl,lk⟩:=D.ex
 refine⟨f,_,?_,.all (hb kV doc pm an (.ref c) ct),D.kp,D.at_⟩
 refine L4 lk D.cd S (fun vs H Q E h=>by rw[hn];exact h.1) fun A outer s H vs Q E hr h=>⟨_,(show PSs _ _ _ from hbody A outer s H E hr).nox,?_⟩
 obtain⟨hl,ds,Fz,fh,tt,r,h⟩:=h
 refine⟨H,Fz,Fz,zX N.length ds,W8 fh tt r,?_⟩
 unfold xG at h
 cases q:fb (zX N.length ds) with
 |nx τ=>rw[q] at h;exact fun σ F' H' ff RR=>h .non F' H' RR.out (by simp only[Rep])
 |rt d=>rw[q] at h;exact fun v F' H' x rr=>h v F' H' x rr
 |ro d τ=>rw[q] at h;exact fun v σ F' H' ff RR rr=>h v F' H' RR.out rr
 |rb d τ=>rw[q] at h;exact h.elim
 |bk τ=>rw[q] at h;exact h.elim
 |ct τ=>rw[q] at h;exact h.elim
 |ex c=>rw[q] at h;exact h.elim
 |no=>rw[q] at h;exact h.elim
 |rs c τ=>rw[q] at h;exact h.elim
end
section
variable{X:Cx}{pos:Pos}{e a b:Expr}{es:List Expr}{fe fa fb:FE}{fs:FA}
end
noncomputable abbrev Fs:=List (Str×D)
noncomputable def Zj(f:Str)(d:D):Fs→Fs
 |[]=>[(f,d)]
 | (g,x)::r=>if g=f then (g,d)::r else (g,x)::Zj f d r
noncomputable def vi(f:Str):Fs→Option D
 |[]=>none
 | (g,x)::r=>if f=g then some x else vi f r
theorem Flds.look{K:Frag}{F H:Hp}{c f:Str}:∀{fs:Fs} {vs:List (Str×V)},Flds K F H c fs vs→match vi f fs with
  |some d=>∃v,vs.lookup f=some v∧Z2 K F H c f d v
  |none=>vs.lookup f=none
 |[],[],_=>rfl
 | (g,d)::r,(g',v)::s,q=>by
  obtain⟨rfl,q2,q3⟩:=q
  have ih:=Flds.look (f:=f) q3
  unfold vi
  by_cases h:f=g
  ·have hb:(f==g)=true:=beq_iff_eq.mpr h
   rw[if_pos h]
   subst h
   exact⟨v,by simp only[List.lookup,hb],q2⟩
  ·have hb:(f==g)=false:=beq_eq_false_iff_ne.mpr h
   rw[if_neg h]
   have e:List.lookup f ((g,v)::s)=List.lookup f s:=by simp only[List.lookup,hb]
   rw[e];exact ih
 |[],_::_,q=>q.elim
 |_::_,[],q=>q.elim
theorem Flds.length{K:Frag}{F H:Hp}{c:Str}:∀{fs:Fs} {vs:List (Str×V)},Flds K F H c fs vs→fs.length=vs.length
 |[],[],_=>rfl
 |_::r,_::s,q=>by rw[length_cons,length_cons,Flds.length q.2.2]
 |[],_::_,q=>q.elim
 |_::_,[],q=>q.elim
theorem Flds.put{K:Frag}{F H:Hp}{c f:Str}{d:D}{v:V}(r:Z2 K F H c f d v):∀{fs:Fs} {vs:List (Str×V)},Flds K F H c fs vs→Flds K F H c (Zj f d fs) (wx f v vs)
 |[],[],_=>⟨rfl,r,trivial⟩
 | (g,x)::t,(g',y)::s,q=>by
  obtain⟨rfl,q2,q3⟩:=q
  have ih:=Flds.put (f:=f) r q3
  unfold Zj wx
  by_cases h:g=f
  ·rw[if_pos h,if_pos h];subst h;exact⟨rfl,r,q3⟩
  ·rw[if_neg h,if_neg h];exact⟨rfl,q2,ih⟩
 |[],_::_,q=>q.elim
 |_::_,[],q=>q.elim
theorem ownL_cons{c f:Str}{v:V}{r:List (Str×V)}{l:Addr}:l∈y0 c ((f,v)::r)↔(Tabs.own c f=true∧v=.ref l)∨l∈y0 c r:=by
 show l∈(if Tabs.own c f=true then (match v with
  |.ref l=>l::y0 c r
  |_=>y0 c r) else y0 c r)↔_
 by_cases z:Tabs.own c f=true
 ·rw[if_pos z]
  cases v <;> simp[z]
  rename_i a
  constructor
  ·rintro (h|h)
   ·exact .inl h.symm
   ·exact .inr h
  ·rintro (h|h)
   ·exact .inl h.symm
   ·exact .inr h
 ·rw[if_neg z];simp[z]
theorem Yy{c f:Str}{l p:Addr}:∀{vs:List (Str×V)},l∈y0 c (wx f (.ref p) vs)→l=p∨l∈y0 c vs
 |[],h=>by
  rcases ownL_cons.mp h with ⟨_,z⟩|z
  ·cases z;exact .inl rfl
  ·cases z
 | (g,x)::r,h=>by
  rw[show wx f (.ref p) ((g,x)::r)=(if g=f then (g,.ref p)::r else (g,x)::wx f (.ref p) r) from rfl] at h
  by_cases z:g=f
  ·rw[if_pos z] at h
   rcases ownL_cons.mp h with ⟨_,e⟩|e
   ·cases e;exact .inl rfl
   ·exact .inr (ownL_cons.mpr (.inr e))
  ·rw[if_neg z] at h
   rcases ownL_cons.mp h with e|e
   ·exact .inr (ownL_cons.mpr (.inl e))
   ·rcases Yy e with e|e
    ·exact .inl e
    ·exact .inr (ownL_cons.mpr (.inr e))
theorem ownL_nd{c f:Str}{v:V}{r:List (Str×V)}:(y0 c ((f,v)::r)).Nodup↔(∀l,Tabs.own c f=true→v=.ref l→l∉y0 c r)∧(y0 c r).Nodup:=by
 show(if Tabs.own c f=true then (match v with
  |.ref l=>l::y0 c r
  |_=>y0 c r) else y0 c r).Nodup↔_
 by_cases z:Tabs.own c f=true
 ·rw[if_pos z]
  cases v <;> simp[z]
 ·rw[if_neg z];simp[z]
theorem ZE{c f:Str}{p:Addr}:∀{vs:List (Str×V)},(y0 c vs).Nodup→p∉y0 c vs→(y0 c (wx f (.ref p) vs)).Nodup
 |[],_,_=>ownL_nd.mpr ⟨fun _ _ _ h=>(by cases h),(show([]:List Addr).Nodup from List.nodup_nil)⟩
 | (g,x)::r,h,hp=>by
  rw[show wx f (.ref p) ((g,x)::r)=(if g=f then (g,.ref p)::r else (g,x)::wx f (.ref p) r) from rfl]
  obtain⟨h1,h2⟩:=ownL_nd.mp h
  have hp2:p∉y0 c r:=fun z=>hp (ownL_cons.mpr (.inr z))
  by_cases z:g=f
  ·rw[if_pos z]
   exact ownL_nd.mpr ⟨fun l _ e=>by cases e;exact hp2,h2⟩
  ·rw[if_neg z]
   refine ownL_nd.mpr ⟨fun l e1 e2 hm=>?_,ZE h2 hp2⟩
   rcases Yy hm with e|e
   ·subst e;exact hp (ownL_cons.mpr (.inl ⟨e1,e2⟩))
   ·exact h1 l e1 e2 e
theorem uY{c f:Str}{l:Addr}(ho:Tabs.own c f=true):∀{s:List (Str×V)},s.lookup f=some (.ref l)→l∈y0 c s
 |[],z=>by cases z
 | (g,w)::s,z=>by
  by_cases h:f=g
  ·subst h
   have:w=.ref l:=by simpa[List.lookup] using z
   exact ownL_cons.mpr (.inl ⟨ho,this⟩)
  ·have hb:(f==g)=false:=beq_eq_false_iff_ne.mpr h
   exact ownL_cons.mpr (.inr (uY ho (by simpa[List.lookup,hb] using z)))
theorem Flds.updL{K:Frag}{F H:Hp}{c f:Str}{l:Addr}{ds:List D}{ws:List V}(ho:Tabs.own c f=true)(r:Reps K F ds ws):∀{fs:Fs} {vs:List (Str×V)},Flds K F H c fs vs→(y0 c vs).Nodup→vs.lookup f=some (.ref l)→Flds K F (upd H l (.lst ws)) c (Zj f (.lst ds) fs) vs
 |[],[],_,_,e=>by cases e
 | (g,x)::t,(g',y)::s,q,nd,e=>by
  obtain⟨rfl,q2,q3⟩:=q
  obtain⟨n1,n2⟩:=ownL_nd.mp nd
  unfold Zj
  by_cases h:g=f
  ·subst h
   rw[if_pos rfl]
   have:y=.ref l:=by simpa[List.lookup] using e
   subst this
   unfold Z2 at q2
   rw[if_pos ho] at q2
   obtain⟨ds0,l',ws0,e1,e2,e3,e4,e5⟩:=q2
   cases e2
   refine⟨rfl,?_,q3.keep (Same.refl F) fun l2 ws2 hl e6 e7=>⟨?_,e7⟩⟩
   ·unfold Z2;rw[if_pos ho];exact⟨ds,l,ws,rfl,rfl,zn,e4,r⟩
   ·have:l2≠l:=fun z=>by subst z;exact n1 l2 ho rfl hl
    rw[zi this];exact e6
  ·rw[if_neg h]
   have hb:(f==g)=false:=beq_eq_false_iff_ne.mpr fun z=>h z.symm
   have e':s.lookup f=some (.ref l):=by simpa[List.lookup,hb] using e
   refine⟨rfl,?_,Flds.updL ho r q3 n2 e'⟩
   have hin:l∈y0 c s:=uY ho e'
   unfold Z2 at q2 ⊢
   by_cases z:Tabs.own c g=true
   ·rw[if_pos z] at q2 ⊢
    obtain⟨ds0,l',ws0,e1,e2,e3,e4,e5⟩:=q2
    have:l'≠l:=fun y=>by subst y;exact n1 l' z e2 hin
    exact⟨ds0,l',ws0,e1,e2,by rw[zi this];exact e3,e4,e5⟩
   ·rw[if_neg z] at q2 ⊢;exact q2
 |[],_::_,q,_,_=>q.elim
 |_::_,[],q,_,_=>q.elim
noncomputable def Xo(τ:DS)(i:Nat)(c:Str):Rs Fs:=match τ[i]? with
 | some (some (.obj _ c' fs))=>if c'=c then .ok fs else .no
 | some (some (.obr c' fs))=>if c'=c then .ok fs else .no
 |_=>.no
noncomputable def v7(τ:DS)(i:Nat)(c:Str):Rs (Nat×Fs):=match τ[i]? with
 | some (some (.obj n c' fs))=>if c'=c then .ok (n,fs) else .no
 |_=>.no
theorem Z6{X:Cx}{τ:DS}{i:Nat}{c:Str}{P:Nat×Fs→Prop}(h:Ok X (v7 τ i c) P):∃n fs,τ[i]?=some (some (.obj n c fs))∧P (n,fs):=by
 unfold v7 at h
 split at h
 ·rename_i n c' fs e
  by_cases z:c'=c
  ·subst z;rw[if_pos rfl] at h;exact⟨n,fs,e,h⟩
  ·rw[if_neg z] at h;exact h.elim
 ·exact h.elim
theorem Ji{X:Cx}{F H:Hp}{τ:DS}{σ:St}{i:Nat}{c:Str}{P:Fs→Prop}(R:RV X.K F τ σ H)(h:Ok X (Xo τ i c) P) :
  ∃fs a C dx vs,σ[i]?=some (some (.ref a))∧H a=some (.ins C dx vs)∧nsIn X.K mainGlobals c=some (some (.ref C))∧Flds X.K F H c fs vs∧P fs:=by
 unfold Xo at h
 split at h
 ·rename_i n c' fs e
  by_cases z:c'=c
  ·subst z;rw[if_pos rfl] at h
   obtain⟨a,h1,C,dx,vs,h2,h3,h4,h5,_⟩:=R.ob.at_ i n c' fs e
   exact⟨fs,a,C,dx,vs,h1,h2,h4,h5,h⟩
  ·rw[if_neg z] at h;exact h.elim
 ·rename_i c' fs e
  by_cases z:c'=c
  ·subst z;rw[if_pos rfl] at h
   obtain⟨a,C,dx,vs,h1,h2,h4,h5⟩:=R.ob.rd i c' fs e
   exact⟨fs,a,C,dx,vs,h1,h2,h4,h5,h⟩
  ·rw[if_neg z] at h;exact h.elim
 ·exact h.elim
section
variable{X:Cx}{pos:Pos}{e:Expr}{es:List Expr}{fe:FE}{fs:FA}{C:Addr}{c f x:Str}{i:Nat}
end
omit [Tabs] in
theorem G7{o:HO}{r r':Option HO}(a:Kp o r)(b:∀u:HO,r=Option.some u→Kp u r'):Kp o r':=by
 cases o <;> first|exact b _ a | (obtain⟨ps,q⟩:=a;have h2:=b (HO.tbl ps) q;exact h2)
theorem RV.objset{K:Frag}{F F' H H':Hp}{τ:DS}{σ:St}{i n:Nat}{c:Str}{fs fs':Fs}{a C dx:Addr}{vs:List (Str×V)}(R:RV K F τ σ H)(hi:τ[i]?=some (some (.obj n c fs)))(ha:σ[i]?=some (some (.ref a)))(he:H a=some (.ins C dx vs))
  (ff:Same F F') (fh:Same F' H') (tt:TbT F' H') (kp:∀b u,b≠a→b∉y0 c vs→H b=some u→Kp u (H' b)) (nwF:∀b o,F' b=some o→F b=some o∨H b=none∨b=a∨b∈y0 c vs)
  (ob:Xu K F' H' c fs' a) (nw:∀l∈Lof H' c a,l∈y0 c vs∨H l=none):RV K F' (τ.set i (some (.obj n c fs'))) σ H':=by
 have hl:i<τ.length:=(List.getElem?_eq_some_iff.mp hi).1
 have hfl:Flds K F H c fs vs:=by
  obtain⟨a',q1,C',dx',vs',q2,_,_,q5,_⟩:=R.ob.at_ i n c fs hi
  rw[ha] at q1;cases q1
  rw[he] at q2;cases q2;exact q5
 have nl:∀{b:Addr} {u:HO},H b=some u→(∀ws,u≠.lst ws)→b∉y0 c vs:=fun {b u} e m z=>by
  obtain⟨_,ws,q⟩:=hfl.own z
  rw[e] at q;cases q;exact m _ rfl
 have na:∀{b:Addr} {u:HO},H b=some u→(∀C dx vs,u≠.ins C dx vs)→b≠a:=fun {b u} e m z=>by
  subst z;rw[he] at e;cases e;exact m _ _ _ rfl
 have nf:∀{b:Addr} {u:HO},b≠a→b∉y0 c vs→H b=some u→F b=none→F' b=none:=fun {b u} h1 h2 e h3=>by
  cases q:F' b with
  |none=>rfl
  |some w=>
   rcases nwF b w q with z|z|z|z
   ·rw[h3] at z;cases z
   ·rw[e] at z;cases z
   ·exact absurd z h1
   ·exact absurd z h2
 have bk:∀{j:Nat} {s:Option Sl},(∀m c1 g,s≠some (.obj m c1 g))→(τ.set i (some (.obj n c fs')))[j]?=some s→i≠j∧τ[j]?=some s:=fun {j s} m h=>by
  by_cases e:i=j
  ·subst e;rw[getElem?_set_self hl] at h;cases h;exact absurd rfl (m _ _ _)
  ·rw[getElem?_set_ne e] at h;exact⟨e,h⟩
 have bs:∀{j:Nat} {c1:Str},i≠j→ObS (τ.set i (some (.obj n c fs')))[j]? c1→ObS τ[j]? c1:=fun {j c1} e h=>by
  rw[getElem?_set_ne e] at h;exact h
 have oth:∀{j:Nat} {c1:Str} {a':Addr},i≠j→ObS τ[j]? c1→σ[j]?=some (some (.ref a'))→a'≠a∧Lof H' c1 a'=Lof H c1 a'∧∀l∈Lof H c1 a',l≠a∧l∉y0 c vs:=fun {j c1 a'} e h ea=>by
  have n1:a'≠a:=fun z=>by subst z;exact R.ob.dis i j n c c1 fs a' e hi h ha ea
  obtain⟨a2,C',dx',vs',gs,h1,h2,h3⟩:=R.ob.get h
  rw[ea] at h1;cases h1
  refine⟨n1,?_,fun l hl2=>⟨fun z=>?_,fun z=>?_⟩⟩
  ·rw[Lof.ins h2,Lof.ins (show H' a'=some (.ins C' dx' vs') from kp a' _ n1 (nl h2 fun _ z=>nomatch z) h2)]
  ·subst z
   rw[Lof.ins h2] at hl2
   obtain⟨_,ws,q⟩:=h3.own hl2
   rw[he] at q;cases q
  ·exact R.ob.ll i j n c c1 fs a a' l e hi h ha ea (by rw[Lof.ins he];exact z) hl2
 refine⟨fh,by simp[R.len],fun j d h=>?_,fun j ds h=>?_,fun j k ds es b hjk h1 h2 h3 h4=>R.dis j k ds es b hjk (bk (fun _ _ _ z=>by cases z) h1).2 (bk (fun _ _ _ z=>by cases z) h2).2 h3 h4,tt,⟨fun j m c1 g h=>?_,fun j k m c1 c2 g1 b hjk h1 h2 h3 h4=>?_,fun j c1 g h=>?_,fun j k m c1 c2 g1 b b' l hjk h1 h2 h3 h4 h5 h6=>?_,fun j k c1 ds b l h1 h2 h3 h4 h5=>?_⟩⟩
 ·obtain⟨v,h1,h2⟩:=R.val j d (bk (fun _ _ _ z=>by cases z) h).2
  exact⟨v,h1,h2.mono ff⟩
 ·have h:=(bk (fun _ _ _ z=>by cases z) h).2
  obtain⟨b,ws,q1,q2,q3,q4⟩:=R.own j ds h
  have n1:=na q2 fun _ _ _ z=>nomatch z
  have n2:b∉y0 c vs:=fun z=>R.ob.lo i j c ds a b (.inl ⟨n,fs,hi⟩) h ha q1 (by rw[Lof.ins he];exact z)
  exact⟨b,ws,q1,kp b _ n1 n2 q2,nf n1 n2 q2 q3,q4.mono ff⟩
 ·by_cases e:i=j
  ·subst e;rw[getElem?_set_self hl] at h;cases h;exact⟨a,ha,ob⟩
  ·rw[getElem?_set_ne e] at h
   obtain⟨a',q1,C',dx',vs',q2,q3,q4,q5,q6,q7⟩:=R.ob.at_ j m c1 g h
   obtain⟨n1,_,n3⟩:=oth e (.inl ⟨m,g,h⟩) q1
   have n2:=nl q2 fun _ z=>nomatch z
   refine⟨a',q1,C',dx',vs',kp a' _ n1 n2 q2,nf n1 n2 q2 q3,q4,q5.keep ff fun l ws hl2 e3 e4=>?_,kp dx' _ (na q6 fun _ _ _ z=>nomatch z) (nl q6 fun _ z=>nomatch z) q6,q7⟩
   obtain⟨m1,m2⟩:=n3 l (by rw[Lof.ins q2];exact hl2)
   exact⟨kp l _ m1 m2 e3,nf m1 m2 e3 e4⟩
 ·by_cases e1:i=j
  ·subst e1
   have h2:=bs hjk h2
   exact R.ob.dis i k n c c2 fs b hjk hi h2 h3 h4
  ·rw[getElem?_set_ne e1] at h1
   by_cases e2:i=k
   ·subst e2
    have:b=a:=by rw[ha] at h4;cases h4;rfl
    subst this
    exact(oth e1 (.inl ⟨m,g1,h1⟩) h3).1 rfl
   ·exact R.ob.dis j k m c1 c2 g1 b hjk h1 (bs e2 h2) h3 h4
 ·obtain⟨e,h⟩:=bk (fun _ _ _ z=>by cases z) h
  obtain⟨a',C',dx',vs',q1,q2,q4,q5⟩:=R.ob.rd j c1 g h
  obtain⟨n1,_,n3⟩:=oth e (.inr ⟨g,h⟩) q1
  refine⟨a',C',dx',vs',q1,kp a' _ n1 (nl q2 fun _ z=>nomatch z) q2,q4,q5.keep ff fun l ws hl2 e3 e4=>?_⟩
  obtain⟨m1,m2⟩:=n3 l (by rw[Lof.ins q2];exact hl2)
  exact⟨kp l _ m1 m2 e3,nf m1 m2 e3 e4⟩
 ·-- own lists of two
  have self:∀{k:Nat} {c2:Str} {b':Addr},i≠k→ObS τ[k]? c2→σ[k]?=some (some (.ref b'))→l∈Lof H' c a→l∈Lof H c2 b'→False:=fun {k c2 b'} e h eb m1 m2=>by
   rcases nw l m1 with z|z
   ·exact((oth e h eb).2.2 l m2).2 z
   ·obtain⟨a2,C',dx',vs',gs,g1,g2,g3⟩:=R.ob.get h
    rw[eb] at g1;cases g1
    rw[Lof.ins g2] at m2
    obtain⟨_,ws,q⟩:=g3.own m2
    rw[z] at q;cases q
  by_cases e1:i=j
  ·subst e1
   rw[getElem?_set_self hl] at h1
   have ec:c=c1:=by cases h1;rfl
   subst ec
   have:b=a:=by rw[ha] at h3;cases h3;rfl
   subst this
   have h2:=bs hjk h2
   rw[(oth hjk h2 h4).2.1] at h6
   exact self hjk h2 h4 h5 h6
  ·rw[getElem?_set_ne e1] at h1
   rw[(oth e1 (.inl ⟨m,g1,h1⟩) h3).2.1] at h5
   by_cases e2:i=k
   ·subst e2
    have ec:c=c2:=by
     rw[getElem?_set_self hl] at h2
     rcases h2 with ⟨_,_,h2⟩|⟨_,h2⟩
     ·cases h2;rfl
     ·cases h2
    subst ec
    have:b'=a:=by rw[ha] at h4;cases h4;rfl
    subst this
    exact self e1 (.inl ⟨m,g1,h1⟩) h3 h6 h5
   ·have h2:=bs e2 h2
    rw[(oth e2 h2 h4).2.1] at h6
    exact R.ob.ll j k m c1 c2 g1 b b' l hjk h1 h2 h3 h4 h5 h6
 ·have h2:=(bk (fun _ _ _ z=>by cases z) h2).2
  by_cases e1:i=j
  ·subst e1
   have ec:c=c1:=by
    rw[getElem?_set_self hl] at h1
    rcases h1 with ⟨_,_,h1⟩|⟨_,h1⟩
    ·cases h1;rfl
    ·cases h1
   subst ec
   have:b=a:=by rw[ha] at h3;cases h3;rfl
   subst this
   rcases nw l h5 with z|z
   ·exact R.ob.lo i k c ds b l (.inl ⟨n,fs,hi⟩) h2 ha h4 (by rw[Lof.ins he];exact z)
   ·obtain⟨p,ws,q1,q2,_⟩:=R.own k ds h2
    rw[h4] at q1;cases q1
    rw[z] at q2;cases q2
  ·have h1:=bs e1 h1
   rw[(oth e1 h1 h3).2.1] at h5
   exact R.ob.lo j k c1 ds b l h1 h2 h3 h4 h5
theorem RS.objset{K:Frag}{B Z F F' H H':Hp}{τ:DS}{σ:St}{i n:Nat}{c:Str}{fs fs':Fs}{a C dx:Addr}{vs:List (Str×V)}(R:RS K B Z F τ σ H)(hi:τ[i]?=some (some (.obj n c fs)))(ha:σ[i]?=some (some (.ref a)))(he:H a=some (.ins C dx vs))
  (ff:Same F F') (fh:Same F' H') (tt:TbT F' H') (kp:∀b u,b≠a→b∉y0 c vs→H b=some u→Kp u (H' b)) (nwF:∀b o,F' b=some o→F b=some o∨H b=none∨b=a∨b∈y0 c vs)
  (ob:Xu K F' H' c fs' a) (nw:∀l∈Lof H' c a,l∈y0 c vs∨H l=none):RS K B Z F' (τ.set i (some (.obj n c fs'))) σ H':=by
 have hl:i<τ.length:=(List.getElem?_eq_some_iff.mp hi).1
 obtain⟨hB,hBl⟩:=R.oo i n c fs a hi ha
 rw[Lof.ins he] at hBl
 have rv:=R.rv.objset hi ha he ff fh tt kp nwF ob nw
 refine⟨rv,fun b o e=>?_,R.zf.trans ff,fun b o e=>?_,fun j ds b h1 h2=>?_,fun j m c1 g b h1 h2=>?_,fun a0 d0 b1 b2 j m c1 g h=>?_,fun j c1 g b h1 h2=>?_⟩
 ·have n1:b≠a:=fun z=>by subst z;rw[hB] at e;cases e
  have n2:b∉y0 c vs:=fun z=>by rw[hBl b z] at e;cases e
  exact G7 (R.bh b o e) fun u hu=>kp b u n1 n2 hu
 ·rcases nwF b o e with z|z|z|z
  ·exact R.nb b o z
  ·exact .inr (xg R.bh z)
  ·exact .inr (by rw[z];exact hB)
  ·exact .inr (hBl b z)
 ·by_cases e:i=j
  ·subst e;rw[getElem?_set_self hl] at h1;cases h1
  ·rw[getElem?_set_ne e] at h1;exact R.ob j ds b h1 h2
 ·by_cases e:i=j
  ·subst e
   rw[getElem?_set_self hl] at h1
   have ec:c=c1:=by cases h1;rfl
   subst ec
   have:b=a:=by rw[ha] at h2;cases h2;rfl
   subst this
   refine⟨hB,fun l hl=>?_⟩
   rcases nw l hl with z|z
   ·exact hBl l z
   ·exact xg R.bh z
  ·rw[getElem?_set_ne e] at h1
   obtain⟨q1,q2⟩:=R.oo j m c1 g b h1 h2
   refine⟨q1,fun l hl=>q2 l ?_⟩
   obtain⟨a',p1,C',dx',vs',p2,_⟩:=R.rv.ob.at_ j m c1 g h1
   rw[h2] at p1;cases p1
   have n1:b≠a:=fun z=>by subst z;exact R.rv.ob.dis i j n c c1 fs b e hi (.inl ⟨m,g,h1⟩) ha h2
   have n2:b∉y0 c vs:=fun z=>by
    obtain⟨a2,p1,C2,dx2,vs2,p3,_,_,p5,_⟩:=R.rv.ob.at_ i n c fs hi
    rw[ha] at p1;cases p1
    rw[he] at p3;cases p3
    obtain⟨_,ws,q⟩:=p5.own z
    rw[p2] at q;cases q
   rw[Lof.ins p2]
   rw[Lof.ins (show H' b=some (.ins C' dx' vs') from kp b _ n1 n2 p2)] at hl
   exact hl
 ·by_cases e:i=j
  ·subst e
   rw[getElem?_set_self hl] at h
   have em:n=m+1:=by cases h;rfl
   subst em
   exact R.sf a0 d0 b1 b2 i m c fs hi
  ·rw[getElem?_set_ne e] at h;exact R.sf a0 d0 b1 b2 j m c1 g h
 ·by_cases e:i=j
  ·subst e;rw[getElem?_set_self hl] at h1;cases h1
  ·rw[getElem?_set_ne e] at h1;exact R.ro j c1 g b h1 h2
omit [Tabs] in
theorem TOk.stepI{F H H':Hp}{r:Addr×Nat×Nat×Str}(t:TOk F H r)(k:∀a o,H a=some o→(∀C dx vs,o≠.ins C dx vs)→H' a=some o):TOk F H' r:=by
 refine⟨t.1,?_⟩
 rcases t.2 with e|⟨c,e,e2⟩
 ·exact .inl (k _ _ e fun _ _ _ z=>nomatch z)
 ·exact .inr ⟨c,k _ _ e (fun _ _ _ z=>nomatch z),k _ _ e2 fun _ _ _ z=>nomatch z⟩
theorem TbT.ins{F H:Hp}{a C dx:Addr}{vs vs':List (Str×V)}(t:TbT F H)(he:H a=some (.ins C dx vs)):TbT F (L2.upd H a (.ins C dx vs')):=
 ⟨fun r hr=>(t.1 r hr).stepI fun b o e n=>by
  have:b≠a:=fun z=>by subst z;rw[he] at e;cases e;exact n _ _ _ rfl
  rw[zi this];exact e,fun d b e=>by
  have e:=vG (fun _ z=>by cases z) d b e
  obtain⟨C',dx',vs'',h⟩:=t.2 d b e
  by_cases z:b=a
  ·subst z;exact⟨C,dx,vs',zn⟩
  ·exact⟨C',dx',vs'',by rw[zi z];exact h⟩⟩
section
variable{X:Cx}{pos:Pos}{e:Expr}{es:List Expr}{fe:FE}{fs:FA}{C:Addr}{c f x:Str}{i:Nat}
end
theorem RS.attN{K:Frag}{B Z F H:Hp}{τ:DS}{σ:St}{i n:Nat}{c f:Str}{fs:Fs}{a C dx p:Addr}{vs:List (Str×V)}{ds:List D}{ws:List V}(R:RS K B Z F τ σ H)(hi:τ[i]?=some (some (.obj n c fs)))(ha:σ[i]?=some (some (.ref a)))(he:H a=some (.ins C dx vs))(ho:Tabs.own c f=true)(hp:H p=none)(r:Reps K F ds ws) :
  RS K B Z F (τ.set i (some (.obj n c (Zj f (.lst ds) fs)))) σ (L2.upd (L2.upd H p (.lst ws)) a (.ins C dx (wx f (.ref p) vs))):=by
 obtain⟨a',q1,C',dx',vs',q2,q3,q4,q5,q6,q7⟩:=R.rv.ob.at_ i n c fs hi
 rw[ha] at q1;cases q1
 rw[he] at q2;cases q2
 have hpa:p≠a:=fun z=>by subst z;rw[he] at hp;cases hp
 have hd:dx≠a:=fun z=>by subst z;rw[he] at q6;cases q6
 have hdp:dx≠p:=zF q6 hp
 have hFp:=zH R.rv.fh hp
 have hpl:p∉y0 c vs:=fun z=>by
  obtain⟨_,ws',q⟩:=q5.own z
  rw[hp] at q;cases q
 have he':L2.upd H p (.lst ws) a=some (.ins C dx vs):=by rw[zi (Ne.symm hpa)];exact he
 have kpp:∀{b:Addr} {u:HO},b≠a→H b=some u→L2.upd (L2.upd H p (.lst ws)) a (.ins C dx (wx f (.ref p) vs)) b=some u:=fun {b u} h1 e=>by rw[zi h1,zi (zF e hp)];exact e
 have t1:TbT F (L2.upd H p (.lst ws)):=R.rv.tt.step (fun _ _ e=>.inl e) (fun b o e _=>by rw[zi (zF e hp)];exact e) (vG fun _ z=>nomatch z)
 refine R.objset hi ha he (Same.refl F) (fun b o e=>?_) (t1.ins he') (fun b u h1 _ e=>.of (kpp h1 e)) (fun b o e=>.inl e) ⟨C,dx,wx f (.ref p) vs,zn,q3,q4,?_,kpp hd q6,ZE q7 hpl⟩ fun l hl=>?_
 ·have:b≠a:=fun z=>by subst z;rw[q3] at e;cases e
  exact kpp this (R.rv.fh b o e)
 ·have k1:Flds K F (L2.upd H p (.lst ws)) c fs vs:=q5.keep (Same.refl F) fun l ws' hl e1 e2=>⟨by rw[zi (zF e1 hp)];exact e1,e2⟩
  have k2:=k1.put (f:=f) (d:=.lst ds) (v:=.ref p) (by unfold Z2;rw[if_pos ho];exact⟨ds,p,ws,rfl,rfl,zn,hFp,r⟩)
  refine k2.keep (Same.refl F) fun l ws' hl e1 e2=>⟨?_,e2⟩
  have:l≠a:=fun z=>by subst z;rw[he'] at e1;cases e1
  rw[zi this];exact e1
 ·rw[Lof.ins zn] at hl
  rcases Yy hl with z|z
  ·subst z;exact .inr hp
  ·exact .inl z
noncomputable def Ta(i:Nat)(c f:Str)(ff:FA):FS:=fun τ=>Fl.of (ff τ) fun ds=>Fl.of (v7 τ i c) fun p=>if p.2.length<1000 then .nx (τ.set i (some (.obj p.1 c (Zj f (.lst ds) p.2)))) else .no
section
variable{X:Cx}{pos:Pos}{e:Expr}{es:List Expr}{fe:FE}{ff:FA}{C:Addr}{c f x:Str}{i:Nat}
theorem TH{p1 pos':Pos}(hx:PE X (.Name x p1) (wX i))(hC:nsIn X.K mainGlobals c=some (some (.ref C)))(cl:Cls X.K C)(na:NoAttr X.K C f)(he:PDF X e ff)(ho:Tabs.own c f=true:=by rfl)
  (hs:swapsWith e (some (.Attribute (.Name x p1) f pos')) pos.line X.env=pure false:=by rfl):PDS X (.Assign [.Attribute (.Name x p1) f pos'] e pos) (Ta i c f ff):=
 PS.imp (zb6 hx he hs) fun E σ H ⟨B,Z,F,τ,R,h⟩=>⟨F,τ,R.rv,h.of.imp fun ds g p ws F1 H1 x hp r=>by
  have R1:=R.ext x
  obtain⟨n,fs,h1,h2⟩:=Z6 (X:=X) (Post.of g)
  obtain⟨a,q1,C',dx,vs,q2,q3,q4,q5,q6⟩:=R1.rv.ob.at_ i n c fs h1
  rw[hC] at q4
  obtain rfl:C=C':=by cases q4;rfl
  have hpa:p≠a:=fun z=>by subst z;rw[q2] at hp;cases hp
  by_cases z:fs.length<1000
  ·dsimp only at h2
   rw[if_pos z] at h2
   exact⟨_,q1,a,C,dx,vs,rfl,by rw[zi (Ne.symm hpa)];exact q2,cl,na,by rw[← q5.length];exact z,h2 σ F1 _ x.ff (R1.attN h1 q1 q2 ho hp r)⟩
  ·dsimp only at h2
   rw[if_neg z] at h2;exact h2.elim⟩
end
noncomputable def Qa(τ:DS)(i:Nat)(c f:Str):Rs (List D):=(Xo τ i c).bind fun fs=>match vi f fs with
 | some (.lst ds)=>.ok ds
 |_=>.no
theorem Je{X:Cx}{F H:Hp}{τ:DS}{σ:St}{i:Nat}{c f:Str}{P:List D→Prop}(R:RV X.K F τ σ H)(ho:Tabs.own c f=true)(h:Ok X (Qa τ i c f) P) :
  ∃ds a C dx vs l ws,σ[i]?=some (some (.ref a))∧H a=some (.ins C dx vs)∧nsIn X.K mainGlobals c=some (some (.ref C))∧vs.lookup f=some (.ref l)∧H l=some (.lst ws)∧F l=none∧Reps X.K F ds ws∧P ds:=by
 obtain⟨fs,a,C,dx,vs,h1,h2,h3,h4,h5⟩:=Ji R h.bind
 have l:=h4.look (f:=f)
 cases q:vi f fs with
 |none=>rw[q] at h5;exact h5.elim
 |some d=>
  rw[q] at h5 l
  obtain⟨v,l1,l2⟩:=l
  unfold Z2 at l2
  rw[if_pos ho] at l2
  obtain⟨ds,p,ws,rfl,rfl,e3,e4,e5⟩:=l2
  exact⟨ds,a,C,dx,vs,p,ws,h1,h2,h3,l1,e3,e4,e5,h5⟩
noncomputable def omO(τ:DS)(i:Nat)(c f:Str):Rs (Nat×Fs×List D):=(v7 τ i c).bind fun p=>match vi f p.2 with
 | some (.lst ds)=>.ok (p.1,p.2,ds)
 |_=>.no
structure OmW(K:Frag)(F H:Hp)(τ:DS)(σ:St)(i:Nat)(c f:Str)(P:Nat×Fs×List D→Prop)(n:Nat)(fs:Fs)(ds:List D)(a C dx:Addr)(vs:List (Str×V))(l:Addr)(ws:List V):Prop where
 b1:τ[i]?=some (some (.obj n c fs))
 b2:σ[i]?=some (some (.ref a))
 b3:H a=some (.ins C dx vs)
 b4:nsIn K mainGlobals c=some (some (.ref C))
 b5:vs.lookup f=some (.ref l)
 b6:H l=some (.lst ws)
 b7:F l=none
 b8:Reps K F ds ws
 b9:P (n,fs,ds)
theorem ze0{X:Cx}{F H:Hp}{τ:DS}{σ:St}{i:Nat}{c f:Str}{P:Nat×Fs×List D→Prop}(R:RV X.K F τ σ H)(ho:Tabs.own c f=true)(h:Ok X (omO τ i c f) P) :
  ∃n fs ds a C dx vs l ws,OmW X.K F H τ σ i c f P n fs ds a C dx vs l ws:=by
 obtain⟨n,fs,h1,h2⟩:=Z6 (X:=X) h.bind
 obtain⟨a,q1,C,dx,vs,q2,q3,q4,q5,q6⟩:=R.ob.at_ i n c fs h1
 have l:=q5.look (f:=f)
 dsimp only at h2
 cases q:vi f fs with
 |none=>rw[q] at h2;exact h2.elim
 |some d=>
  rw[q] at h2 l
  obtain⟨v,l1,l2⟩:=l
  unfold Z2 at l2
  rw[if_pos ho] at l2
  obtain⟨ds,p,ws,rfl,rfl,e3,e4,e5⟩:=l2
  exact⟨n,fs,ds,a,C,dx,vs,p,ws,h1,q1,q2,q4,l1,e3,e4,e5,h2⟩
theorem RS.attL{K:Frag}{B Z F H:Hp}{τ:DS}{σ:St}{i n:Nat}{c f:Str}{fs:Fs}{a C dx l:Addr}{vs:List (Str×V)}{ds:List D}{ws ws':List V}(R:RS K B Z F τ σ H)(hi:τ[i]?=some (some (.obj n c fs)))(ha:σ[i]?=some (some (.ref a)))(he:H a=some (.ins C dx vs))(ho:Tabs.own c f=true)(hl:vs.lookup f=some (.ref l))(hw:H l=some (.lst ws))(hF:F l=none)(r:Reps K F ds ws') :
  RS K B Z F (τ.set i (some (.obj n c (Zj f (.lst ds) fs)))) σ (L2.upd H l (.lst ws')):=by
 obtain⟨a',q1,C',dx',vs',q2,q3,q4,q5,q6,q7⟩:=R.rv.ob.at_ i n c fs hi
 rw[ha] at q1;cases q1
 rw[he] at q2;cases q2
 have hin:=uY ho hl
 have hal:a≠l:=fun z=>by subst z;rw[he] at hw;cases hw
 have hdl:dx≠l:=fun z=>by subst z;rw[q6] at hw;cases hw
 have he':L2.upd H l (.lst ws') a=some (.ins C dx vs):=by rw[zi hal];exact he
 refine R.objset hi ha he (Same.refl F) (fun b o e=>?_) (R.rv.tt.step (fun _ _ e=>.inl e) (fun b o e m=>?_) (vG fun _ z=>nomatch z)) (fun b u _ h2 e=>.of ?_) (fun b o e=>.inl e) ⟨C,dx,vs,he',q3,q4,q5.updL ho r q7 hl,by rw[zi hdl];exact q6,q7⟩ fun l' hl'=>.inl (by rw[Lof.ins he'] at hl';exact hl')
 ·have:b≠l:=fun z=>by subst z;rw[hF] at e;cases e
  rw[zi this];exact R.rv.fh b o e
 ·have:b≠l:=fun z=>by subst z;rw[hw] at e;cases e;exact m _ rfl
  rw[zi this];exact e
 ·have:b≠l:=fun z=>by subst z;exact h2 hin
  rw[zi this];exact e
section
variable{X:Cx}{pos:Pos}{e:Expr}{es:List Expr}{fe:FE}{ff:FA}{C:Addr}{c f x:Str}{i:Nat}
theorem U8{p1 p2:Pos}(hx:PE X (.Name x p1) (wX i))(hb:attributeBase (.Name x p1) f X.env (eval (.Name x p1) X.env)=eval (.Name x p1) X.env:=by rfl):PE X (.Attribute (.Name x p1) f p2) (tFld X.K (wX i) f):=zc9 hx hb
noncomputable def VO(i:Nat)(c f:Str):FE:=fun τ=>(Qa τ i c f).bind fun ds=>.ok (.int ds.length)
theorem Gx{p1 p2 p:Pos}(hx:PE X (.Name x p1) (wX i))(hC:nsIn X.K mainGlobals c=some (some (.ref C)))(cl:Cls X.K C)(na:NoAttr X.K C f)(hg:Gl X "len")(hm:X.mg "len" = none)(ho:Tabs.own c f=true:=by rfl)
  (he:starEach [.Attribute (.Name x p1) f p2] X.env=[(false,eval (.Attribute (.Name x p1) f p2) X.env)]:=by rfl) (hpl:(backTo pos (starEach [] X.env)).any (·.1)=false:=by rfl):PDE X (.Call (.Name "len" p) [.Attribute (.Name x p1) f p2] [] pos) (VO i c f):=
 PE.imp (pe_callB call_len_seq hg hm PySem.boot_len (uX (U8 hx) Zn (by rw[he];rfl)) (he:=by rw[he];rfl) (hpl:=hpl)) fun σ H Q z_=>by
  obtain⟨F,τ,R,h⟩:=z_
  obtain⟨ds,a,C',dx,vs,l,ws,h1,h2,h3,h4,h5,h6,h7,h8⟩:=Je R ho (Ok.bind h)
  obtain rfl:C=C':=by rw[hC] at h3;cases h3;rfl
  refine⟨_,h1,a,C,dx,vs,.ref l,rfl,h2,cl,na,h4,l,ws,rfl,.inl (SqL.of h5),?_⟩
  rw[← h7.length]
  exact h8 (.int ds.length) F H (Ext.refl R.fh) (by simp only[Rep])
noncomputable def UW(i:Nat)(c f:Str)(fe:FE):FS:=fun τ=>Fl.of (omO τ i c f) fun p=>Fl.of (fe τ) fun d=>if p.2.2.length<sizeLine then .nx (τ.set i (some (.obj p.1 c (Zj f (.lst (p.2.2++[d])) p.2.1)))) else .no
theorem Gq{p1 p2 apos cpos:Pos}(hx:PE X (.Name x p1) (wX i))(hC:nsIn X.K mainGlobals c=some (some (.ref C)))(cl:Cls X.K C)(na:NoAttr X.K C f)(he:PDE X e fe)(ho:Tabs.own c f=true:=by rfl)
  (hfew:((backTo cpos (starEach [e] X.env)).all (fun x=>!x.1)&&(backToKw cpos (keywordEach [] X.env)).all (fun x=>x.1.isSome)
   && decide ([e].length+([]:List Keyword).length+(if ([]:List Keyword).isEmpty then 0 else 1)<30))=true:=by rfl)
  (hline:(apos.endLine==cpos.line)=true:=by rfl) (hs:starEach [e] X.env=[(false,eval e X.env)]:=by rfl) (hplain:(backTo cpos (starEach [] X.env)).any (·.1)=false:=by rfl)
  (hbase:attributeBase (.Attribute (.Name x p1) f p2) "append" X.env (eval (.Attribute (.Name x p1) f p2) X.env)=eval (.Attribute (.Name x p1) f p2) X.env:=by rfl)
  (hsw:swapsWith (.Call (.Attribute (.Attribute (.Name x p1) f p2) "append" apos) [e] [] cpos) none pos.line X.env=pure false:=by rfl) :
  PDS X (.Expr (.Call (.Attribute (.Attribute (.Name x p1) f p2) "append" apos) [e] [] cpos) pos) (UW i c f fe):=
 PS.imp (U5 (LV PySem.F.plainAttrs_list PySem.F.slot_list_append PySem.F.type_list_append Zr (U8 hx) (uX he Zn (by rw[hs];rfl)) hbase hfew hline (by rw[hs];rfl) hplain) hsw) fun E σ H z_=>by
  obtain⟨B,Z,F,τ,R,h⟩:=z_
  obtain⟨n,fs,ds,a,C',dx,vs,l,ws,h0,h1,h2,h3,h4,h5,h6,h7,h8⟩:=ze0 R.rv ho (Post.of h)
  obtain rfl:C=C':=by rw[hC] at h3;cases h3;rfl
  refine⟨_,h1,a,C,dx,vs,.ref l,rfl,h2,cl,na,h4,.inl ⟨rfl,ws,SqL.of h5⟩,?_⟩
  refine tE.at R (Post.of h8) fun d v F1 H1 g x R1 r=>?_
  have hF1:F1 l=none:=by
   cases q:F1 l with
   |none=>rfl
   |some w=>
    rcases x.nw l w q with z|z
    ·rw[h6] at z;cases z
    ·rw[h5] at z;cases z
  by_cases z:ds.length<sizeLine
  ·dsimp only at g
   rw[if_pos z] at g
   refine⟨l,ws,v,rfl,rfl,x.hh _ _ h5,by rw[← h7.length];exact z,?_⟩
   exact g _ F1 _ x.ff (R1.attL h0 h1 (x.hh _ _ h2) ho h4 (x.hh _ _ h5) hF1 ((h7.mono x.ff).append (Reps.cons r Reps.nil)))
  ·dsimp only at g
   rw[if_neg z] at g;exact g.elim
end
structure zj2(F B F' H':Hp):Prop where
 ff:Same F F'
 hh:Hh B H'
 fh:Same F' H'
 nw:∀a o,F' a=some o→F a=some o∨B a=none
 tt:TbT F' H'
theorem RS.outO{K:Frag}{B Z F H:Hp}{τ:DS}{σ:St}(R:RS K B Z F τ σ H):zj2 Z B F H:=⟨R.zf,R.bh,R.rv.fh,R.nb,R.rv.tt⟩
noncomputable def wj(H:Hp)(c:Str)(a:Addr):Hp:=fun b=>if b=a∨b∈Lof H c a then none else H b
theorem Ya(H:Hp)(c:Str)(a:Addr):wj H c a a=none:=if_pos (.inl rfl)
theorem JB{H:Hp}{c:Str}{a l:Addr}(h:l∈Lof H c a):wj H c a l=none:=if_pos (.inr h)
theorem vR{H:Hp}{c:Str}{a b:Addr}(h1:b≠a)(h2:b∉Lof H c a):wj H c a b=H b:=if_neg fun z=>z.elim h1 h2
theorem jA{H:Hp}{c:Str}{a b:Addr}{o:HO}(h:wj H c a b=some o):H b=some o:=by
 unfold wj at h
 split at h
 ·cases h
 ·exact h
theorem uc{H:Hp}{c:Str}{a b:Addr}(h:wj H c a b=none):b=a∨b∈Lof H c a∨H b=none:=by
 unfold wj at h
 split at h
 ·rename_i z;exact z.elim .inl fun z=>.inr (.inl z)
 ·exact .inr (.inr h)
noncomputable def spM(K:Frag)(c:Str)(j n:Nat)(g:Fs→List D→Rs (D×Fs)):Sp:=fun vs H Q E=>vs.length=n+1∧∃a us1 us2 ds1 ds2 fs F,vs=us1 ++ .ref a::us2∧us1.length=j∧Xu K F H c fs a∧Same F H∧TbT F H∧Reps K F ds1 us1∧Reps K F ds2 us2∧match g fs (ds1++ds2) with
 | .ok (d,fs')=>∀v F' H',zj2 F (wj H c a) F' H'→Xu K F' H' c fs' a→(∀l∈Lof H' c a,l∈Lof H c a∨H l=none)→Rep K F' d v→Q v H'
 |_=>False
noncomputable def spR(K:Frag)(c:Str)(j n:Nat)(g:Fs→List D→Rs D):Sp:=fun vs H Q E=>vs.length=n+1∧∃a us1 us2 ds1 ds2 fs F C dx ws,vs=us1 ++ .ref a::us2∧us1.length=j∧H a=some (.ins C dx ws)∧nsIn K mainGlobals c=some (some (.ref C))∧Flds K F H c fs ws∧Same F H∧TbT F H∧Reps K F ds1 us1∧Reps K F ds2 us2∧match g fs (ds1++ds2) with
 |.ok d=>Ev K F H Q d
 |_=>False
theorem RS.meth{K:Frag}{B Z F H F' H':Hp}{τ:DS}{σ:St}{i n:Nat}{c:Str}{fs fs':Fs}{a:Addr}(R:RS K B Z F τ σ H)(hi:τ[i]?=some (some (.obj n c fs)))(ha:σ[i]?=some (some (.ref a)))(x:zj2 F (wj H c a) F' H')(o:Xu K F' H' c fs' a)(nw:∀l∈Lof H' c a,l∈Lof H c a∨H l=none) :
  RS K B Z F' (τ.set i (some (.obj n c fs'))) σ H':=by
 obtain⟨a',q1,C,dx,vs,he,_⟩:=R.rv.ob.at_ i n c fs hi
 rw[ha] at q1;cases q1
 have hL:Lof H c a=y0 c vs:=Lof.ins he
 refine R.objset hi ha he x.ff x.fh x.tt (fun b u h1 h2 e=>x.hh b u (by rw[vR h1 (by rw[hL];exact h2)];exact e)) (fun b u e=>?_) o fun l hl=>by rw[← hL];exact nw l hl
 rcases x.nw b u e with z|z
 ·exact .inl z
 ·rcases uc z with z|z|z
  ·exact .inr (.inr (.inl z))
  ·exact .inr (.inr (.inr (by rw[← hL];exact z)))
  ·exact .inr (.inl z)
noncomputable def vE(s0:Sl)(j N:Nat)(ds:List D):DS:=(ds.take j).map (fun d=>some (.val d))++some s0::((ds.drop j).map (fun d=>some (.val d))++List.replicate (N-(ds.length+1)) none)
noncomputable def jH(s0:Sl)(ds1 ds2:List D)(N:Nat):DS:=ds1.map (fun d=>some (.val d))++some s0::(ds2.map (fun d=>some (.val d))++List.replicate (N-(ds1.length+ds2.length+1)) none)
omit [Tabs] in
theorem XE{s0:Sl}{j N:Nat}{ds1 ds2:List D}(h:ds1.length=j):vE s0 j N (ds1++ds2)=jH s0 ds1 ds2 N:=by
 unfold vE jH
 subst h
 rw[List.take_left,List.drop_left,length_append]
omit [Tabs] in
theorem Xb{s0:Sl}{N:Nat}{ds1 ds2:List D}{i:Nat}{o:Sl}(h:(jH s0 ds1 ds2 N)[i]?=some (some o)):(i=ds1.length∧o=s0)∨(∃d,ds1[i]?=some d∧o=.val d)∨∃k d,i=ds1.length+1+k∧ds2[k]?=some d∧o=.val d:=by
 unfold jH at h
 by_cases h1:i<ds1.length
 ·rw[getElem?_append_left (by simpa using h1),getElem?_map] at h
  cases e:ds1[i]? with
  |none=>rw[e] at h;cases h
  |some d=>rw[e] at h;cases h;exact .inr (.inl ⟨d,rfl,rfl⟩)
 ·rw[getElem?_append_right (by simpa using h1),length_map] at h
  cases e:i-ds1.length with
  |zero=>rw[e] at h;simp at h;exact .inl ⟨by lia,h.symm⟩
  |succ k=>
   rw[e,getElem?_cons_succ] at h
   by_cases h2:k<ds2.length
   ·rw[getElem?_append_left (by simpa using h2),getElem?_map] at h
    cases e2:ds2[k]? with
    |none=>rw[e2] at h;cases h
    |some d=>rw[e2] at h;cases h;exact .inr (.inr ⟨k,d,by lia,e2,rfl⟩)
   ·rw[getElem?_append_right (by simpa using h2),getElem?_replicate] at h
    split at h <;> cases h
theorem XH{K:Frag}{F H B:Hp}{N:List Str}{ds1 ds2:List D}{us1 us2:List V}{a:Addr}{s0:Sl}(hs:VA (some s0)=true)(fh:Same F H)(tt:TbT F H)(r1:Reps K F ds1 us1)(r2:Reps K F ds2 us2)
  (h1:∀n c fs,s0=.obj n c fs→Xu K F H c fs a∧B=wj H c a) (h2:∀c fs,s0=.obr c fs→(∃C dx vs,H a=some (.ins C dx vs)∧nsIn K mainGlobals c=some (some (.ref C))∧Flds K F H c fs vs)) (hb:Hh B H) (hnb:∀b o,B b=some o→H b=some o) (h3:∀c fs,s0=.obr c fs→B=H) :
  RS K B F F (jH s0 ds1 ds2 N.length) (L2.start N (us1 ++ .ref a::us2)) H:=by
 have hl1:=r1.length
 have hl2:=r2.length
 have s1:∀{i:Nat} {v:V},us1[i]?=some v→(L2.start N (us1 ++ .ref a::us2))[i]?=some (some v):=fun {i v} q=>by
  have hi:i<us1.length:=(List.getElem?_eq_some_iff.mp q).1
  unfold L2.start
  rw[getElem?_append_left (by simp;lia),getElem?_map,getElem?_append_left hi,q];rfl
 have s2:∀{k:Nat} {v:V},us2[k]?=some v→(L2.start N (us1 ++ .ref a::us2))[us1.length+1+k]?=some (some v):=fun {k v} q=>by
  have hi:k<us2.length:=(List.getElem?_eq_some_iff.mp q).1
  unfold L2.start
  rw[getElem?_append_left (by simp;lia),getElem?_map,getElem?_append_right (by lia),show us1.length+1+k-us1.length=k+1 by lia,getElem?_cons_succ,q];rfl
 have s0':(L2.start N (us1 ++ .ref a::us2))[ds1.length]?=some (some (.ref a)):=by
  unfold L2.start
  rw[getElem?_append_left (by simp;lia),getElem?_map,getElem?_append_right (by lia),hl1];simp
 have only:∀{i:Nat} {o:Sl},VA (some o)=true→(jH s0 ds1 ds2 N.length)[i]?=some (some o)→i=ds1.length∧o=s0:=fun {i o} ho h=>by
  rcases Xb h with e|⟨d,_,e⟩|⟨k,d,_,_,e⟩
  ·exact e
  ·subst e;cases ho
  ·subst e;cases ho
 have onlyS:∀{i:Nat} {c:Str},ObS (jH s0 ds1 ds2 N.length)[i]? c→i=ds1.length:=fun {i c} h=>by
  rcases h with ⟨n,fs,h⟩|⟨fs,h⟩
  ·exact(only rfl h).1
  ·exact(only rfl h).1
 have noown:∀{i:Nat} {es:List D},(jH s0 ds1 ds2 N.length)[i]?=some (some (.own es))→False:=fun {i es} h=>by
  rcases Xb h with ⟨_,e⟩|⟨d,_,e⟩|⟨k,d,_,_,e⟩
  ·rw[← e] at hs;cases hs
  ·cases e
  ·cases e
 refine⟨⟨fh,?_,fun i d h=>?_,fun i es h=>(noown h).elim,fun i j es es' b _ h1=>(noown h1).elim,tt,⟨fun i n c fs h=>?_,fun i j n c c' fs b hij g1 g2 _ _=>?_,fun i c fs h=>?_,fun i j n c c' fs b b' l hij g1 g2=>?_,fun i j c ds b l _ g2=>(noown g2).elim⟩⟩,hb,Same.refl F,fun a o e=>.inl e,fun i es b g1=>(noown g1).elim,fun i n c fs b g1 g2=>?_,fun a0 dx b1 b2 i n c fs g1=>?_,fun i c fs b g1 g2=>?_⟩
 ·simp[jH,L2.start,hl1,hl2];lia
 ·rcases Xb h with ⟨_,e⟩|⟨d',e1,e⟩|⟨k,d',rfl,e1,e⟩
  ·rw[← e] at hs;cases hs
  ·cases e
   obtain⟨v,q1,q2⟩:=r1.get e1
   exact⟨v,s1 q1,q2⟩
  ·cases e
   obtain⟨v,q1,q2⟩:=r2.get e1
   exact⟨v,by rw[hl1];exact s2 q1,q2⟩
 ·obtain⟨rfl,e⟩:=only rfl h
  exact⟨a,s0',(h1 n c fs e.symm).1⟩
 ·exact hij ((only rfl g1).1.trans (onlyS g2).symm)
 ·obtain⟨rfl,e⟩:=only rfl h
  obtain⟨C,dx,vs,q1,q2,q3⟩:=h2 c fs e.symm
  exact⟨a,C,dx,vs,s0',q1,q2,q3⟩
 ·exact absurd ((only rfl g1).1.trans (onlyS g2).symm) hij
 ·obtain⟨rfl,e⟩:=only rfl g1
  rw[s0'] at g2;cases g2
  rw[(h1 n c fs e.symm).2]
  exact⟨Ya _ _ _,fun l hl=>JB hl⟩
 ·obtain⟨rfl,e⟩:=only rfl g1
  obtain⟨p1,p2⟩:=h1 (n+1) c fs e.symm
  obtain⟨C,dx',vs,q2⟩:=tt.2 dx a0 (hnb _ _ b1)
  by_cases z:a0=a
  ·rw[z];exact s0'
  ·have:a0∉Lof H c a:=fun y=>by
    obtain⟨C2,dx2,vs2,o1,_,_,o4,_⟩:=p1
    rw[Lof.ins o1] at y
    obtain⟨_,ws,q⟩:=o4.own y
    rw[q2] at q;cases q
   rw[p2,vR z this,q2] at b2;cases b2
 ·obtain⟨rfl,e⟩:=only rfl g1
  rw[s0'] at g2;cases g2
  obtain⟨C,dx,vs,q1,q2,q3⟩:=h2 c fs e.symm
  rw[h3 c fs e.symm]
  exact⟨C,dx,vs,q1,fun l hl=>(q3.own hl).2⟩
noncomputable def flM(j:Nat)(c:Str):Fl→Rs (D×Fs)
 |.ro d τ=>(v7 τ j c).bind fun p=>if p.1=1 then .ok (d,p.2) else .no
 |.nx τ=>(v7 τ j c).bind fun p=>if p.1=1 then .ok (.non,p.2) else .no
 |_=>.no
noncomputable def W9(N j:Nat)(c:Str)(fb:FS)(fs:Fs)(ds:List D):Rs (D×Fs):=flM j c (fb (vE (.obj 1 c fs) j N ds))
noncomputable def Ua(N j:Nat)(c:Str)(fb:FS)(fs:Fs)(ds:List D):Rs D:=YW (fb (vE (.obr c fs) j N ds))
theorem Jh{τ:DS}{i n:Nat}{c:Str}{fs:Fs}(h:v7 τ i c=.ok (n,fs)):τ[i]?=some (some (.obj n c fs)):=by
 unfold v7 at h
 split at h
 ·rename_i m c' gs e
  by_cases z:c'=c
  ·subst z;rw[if_pos rfl] at h;cases h;exact e
  ·rw[if_neg z] at h;cases h
 ·cases h
section
variable{P:Program}{w:World}{K:Frag}{mg:Str→Option Value}{base:Heap}
theorem YT(H:Hp)(c:Str)(a:Addr):Hh (wj H c a) H:=fun b o e=>.of (jA e)
theorem fnM{x qual c:Str}{st:Stmt}{f:Addr}{fd:FuncData}{N ps:List Str}{k n j:Nat}{fb:FS}(F:Fun K x qual st f fd)(S:zJ N ps (zh st))(hn:ps.length=n+1)
  (hbody:∀(cdv:Value) (A:Around) (outer:List Env) (s:Shared) (H:Hp) (E:XK),Room k (A.deeper (envOfC qual (zh st) s.heap.objs.size f cdv)) →
   uk (j5 CX0 P w K mg base N qual (zh st) f cdv A outer s H E).nox (zB st) fb):FnOk P w K mg base CX0 (k+1) f fd ps (spM K c j n (W9 N.length j c fb)):=by
 refine F.ok S (fun vs H Q E h=>by rw[hn];exact h.1) fun cdv A outer s H vs Q E hr h=>⟨_,hbody cdv A outer s H E hr,?_⟩
 obtain⟨hl,a,us1,us2,ds1,ds2,fs,Fz,rfl,hj,ob,fh,tt,r1,r2,h⟩:=h
 have hd1:ds1.length=j:=r1.length.trans hj
 have st:vE (.obj 1 c fs) j N.length (ds1++ds2)=jH (.obj 1 c fs) ds1 ds2 N.length:=XE hd1
 refine⟨wj H c a,Fz,Fz,jH (.obj 1 c fs) ds1 ds2 N.length,XH rfl fh tt r1 r2 (fun n' c' fs' e=>by cases e;exact⟨ob,rfl⟩) (fun c' fs' e=>by cases e) (YT H c a) (fun b o e=>jA e) (fun c' fs' e=>by cases e),?_⟩
 obtain⟨C,dx,ws,o1,o2,o3,o4,o5,o6⟩:=ob
 have hdx:wj H c a dx=some (.own a):=by
  have n1:dx≠a:=fun z=>by subst z;rw[o1] at o5;cases o5
  have n2:dx∉Lof H c a:=fun z=>by
   rw[Lof.ins o1] at z
   obtain⟨_,ws',q⟩:=o4.own z
   rw[o5] at q;cases q
  rw[vR n1 n2];exact o5
 have fin:∀{τ:DS} {σ:St} {F' H':Hp} {fs':Fs},v7 τ j c=.ok (1,fs')→RS K (wj H c a) Fz F' τ σ H'→Xu K F' H' c fs' a∧∀l∈Lof H' c a,l∈Lof H c a∨H l=none:=fun {τ σ F' H' fs'} q RR=>by
  have z:=Jh q
  obtain⟨a',p1,p2⟩:=RR.rv.ob.at_ j 1 c fs' z
  have:=RR.sf a dx hdx (Ya _ _ _) j 0 c fs' z
  rw[p1] at this;cases this
  refine⟨p2,fun l hl=>?_⟩
  rcases uc ((RR.oo j 1 c fs' a z p1).2 l hl) with y|y|y
  ·subst y
   obtain⟨C',dx',vs',g1,_,_,g4,_⟩:=p2
   rw[Lof.ins g1] at hl
   obtain⟨_,ws',q⟩:=g4.own hl
   rw[g1] at q;cases q
  ·exact .inl y
  ·exact .inr y
 unfold W9 at h
 rw[st] at h
 cases q:fb (jH (.obj 1 c fs) ds1 ds2 N.length) with
 |nx τ=>
  rw[q] at h
  cases z:v7 τ j c with
  |ok p=>
   obtain⟨m,fs'⟩:=p
   simp only[flM,z,Rs.bind] at h
   by_cases hm:m=1
   ·subst hm
    rw[if_pos rfl] at h
    exact fun σ F' H' ff RR=>h .non F' H' RR.outO (fin z RR).1 (fin z RR).2 (by simp only[Rep])
   ·rw[if_neg hm] at h;exact h.elim
  |ex c=>simp only[flM,z,Rs.bind] at h
  |no=>simp only[flM,z,Rs.bind] at h
 |ro d τ=>
  rw[q] at h
  cases z:v7 τ j c with
  |ok p=>
   obtain⟨m,fs'⟩:=p
   simp only[flM,z,Rs.bind] at h
   by_cases hm:m=1
   ·subst hm
    rw[if_pos rfl] at h
    exact fun v σ F' H' ff RR rr=>h v F' H' RR.outO (fin z RR).1 (fin z RR).2 rr
   ·rw[if_neg hm] at h;exact h.elim
  |ex c=>simp only[flM,z,Rs.bind] at h
  |no=>simp only[flM,z,Rs.bind] at h
 |rb d τ=>rw[q] at h;exact h.elim
 |rt d=>rw[q] at h;exact h.elim
 |bk τ=>rw[q] at h;exact h.elim
 |ct τ=>rw[q] at h;exact h.elim
 |ex c=>rw[q] at h;exact h.elim
 |no=>rw[q] at h;exact h.elim
 |rs c τ=>rw[q] at h;exact h.elim
theorem fnR{x qual c:Str}{st:Stmt}{f:Addr}{fd:FuncData}{N ps:List Str}{k n j:Nat}{fb:FS}(F:Fun K x qual st f fd)(S:zJ N ps (zh st))(hn:ps.length=n+1)
  (hbody:∀(cdv:Value) (A:Around) (outer:List Env) (s:Shared) (H:Hp) (E:XK),Room k (A.deeper (envOfC qual (zh st) s.heap.objs.size f cdv)) →
   uk (j5 CX0 P w K mg base N qual (zh st) f cdv A outer s H E).nox (zB st) fb):FnOk P w K mg base CX0 (k+1) f fd ps (spR K c j n (Ua N.length j c fb)):=by
 refine F.ok S (fun vs H Q E h=>by rw[hn];exact h.1) fun cdv A outer s H vs Q E hr h=>⟨_,hbody cdv A outer s H E hr,?_⟩
 obtain⟨hl,a,us1,us2,ds1,ds2,fs,Fz,C,dx,ws,rfl,hj,o1,o2,o3,fh,tt,r1,r2,h⟩:=h
 have hd1:ds1.length=j:=r1.length.trans hj
 have st:vE (.obr c fs) j N.length (ds1++ds2)=jH (.obr c fs) ds1 ds2 N.length:=XE hd1
 refine⟨H,Fz,Fz,jH (.obr c fs) ds1 ds2 N.length,XH rfl fh tt r1 r2 (fun n' c' fs' e=>by cases e) (fun c' fs' e=>by cases e;exact⟨C,dx,ws,o1,o2,o3⟩) (Hh.refl H) (fun _ _ e=>e) (fun _ _ _=>rfl),?_⟩
 unfold Ua at h
 rw[st] at h
 cases q:fb (jH (.obr c fs) ds1 ds2 N.length) with
 |nx τ=>rw[q] at h;exact fun σ F' H' ff RR=>h .non F' H' RR.out (by simp only[Rep])
 |rt d=>rw[q] at h;exact fun v F' H' x rr=>h v F' H' x rr
 |ro d τ=>rw[q] at h;exact fun v σ F' H' ff RR rr=>h v F' H' RR.out rr
 |rb d τ=>rw[q] at h;exact h.elim
 |bk τ=>rw[q] at h;exact h.elim
 |ct τ=>rw[q] at h;exact h.elim
 |ex c=>rw[q] at h;exact h.elim
 |no=>rw[q] at h;exact h.elim
 |rs c τ=>rw[q] at h;exact h.elim
end
noncomputable abbrev FOb:=DS→Rs (D×DS)
noncomputable abbrev QK:=DS→Rs (Bool×DS)
noncomputable def tOb(X:Cx)(f:FOb):TE:=fun σ H Q=>∃B Z F τ,RS X.K B Z F τ σ H∧Ok X (f τ) fun p=>∀v F' H',Same F F'→RS X.K B Z F' p.2 σ H'→Rep X.K F' p.1 v→Q v H'
noncomputable def tObT(X:Cx)(f:QK):TT:=fun σ H Q=>∃B Z F τ,RS X.K B Z F τ σ H∧Ok X (f τ) fun p=>∀F' H',Same F F'→RS X.K B Z F' p.2 σ H'→Q p.1 H'
noncomputable def LM(X:Cx)(e:Expr)(f:FOb):Prop:=PE X e (tOb X f)
noncomputable def L7(X:Cx)(e:Expr)(f:QK):Prop:=PT X e (tObT X f)
noncomputable def MetM(P:Program)(w:World)(K:Frag)(mg:Str→Option Value)(base:Heap)(c m:Str)(k n:Nat)(ps:List Str)(g:Fs→List D→Rs (D×Fs)):Prop:=
 ∃C f fd,nsIn K mainGlobals c=some (some (.ref C))∧Cls K C∧Xv K C m f∧FnOk P w K mg base CX0 k f fd ps (spM K c 0 n g)∧Binds K fd ps []
noncomputable def MetR(P:Program)(w:World)(K:Frag)(mg:Str→Option Value)(base:Heap)(c m:Str)(k n:Nat)(ps:List Str)(g:Fs→List D→Rs D):Prop:=
 ∃C f fd,nsIn K mainGlobals c=some (some (.ref C))∧Cls K C∧Xv K C m f∧FnOk P w K mg base CX0 k f fd ps (spR K c 0 n g)∧Binds K fd ps []
noncomputable def ClsM(P:Program)(w:World)(K:Frag)(mg:Str→Option Value)(base:Heap)(c:Str)(k n:Nat)(ps:List Str)(g:Fs→List D→Rs (D×Fs)):Prop:=
 ∃C f fd,nsIn K mainGlobals c=some (some (.ref C))∧mg c=some (.ref C)∧Mk K C f∧FnOk P w K mg base CX0 k f fd ps (spM K c 0 n g)∧Binds K fd ps []
section
variable{X:Cx}{pos:Pos}{e a b:Expr}{es rest:List Expr}{fe fb:FE}{fs:FA}{c m x:Str}{i k n:Nat}{ps:List Str}{fo:FOb}{ga gb:QK}
noncomputable def yY(i:Nat)(c m:Str)(g:Fs→List D→Rs D)(fs:FA):FE:=fun τ=>(Xo τ i c).bind fun o=>if (vi m o).isNone=true then (fs τ).bind fun ds=>Qf (g o ds) else .no
theorem Vq{C:Addr}{g:Fs→List D→Rs D}(hC:nsIn X.K mainGlobals c=some (some (.ref C)))(hfs:∀τ ds,fs τ=.ok ds→ds.length=n){σ:St}{H:Hp}{Q:VK}(h:tE X (yY i c m g fs) σ H Q):UM C m (spR X.K c 0 n g) [] E0 (wX i) (tAs X fs) σ H Q:=by
 obtain⟨F,τ,R,h⟩:=h
 obtain⟨o,a,C',dx,vs,h1,h2,h3,h4,h5⟩:=Ji R h.bind
 obtain rfl:C=C':=by rw[hC] at h3;cases h3;rfl
 have l:=h4.look (f:=m)
 cases z:vi m o with
 |some d=>rw[z,if_neg (by simp)] at h5;exact h5.elim
 |none=>
  rw[z] at l h5
  rw[if_pos (by rfl)] at h5
  refine⟨_,h1,a,dx,vs,rfl,h2,l,F,τ,R,?_⟩
  have hb:=h5.bind
  cases q:fs τ with
  |no=>rw[q] at hb;exact hb
  |ex c=>rw[q] at hb;exact hb
  |ok ds=>
   rw[q] at hb
   intro us F1 H1 x r
   rw[append_nil]
   refine⟨by rw[length_cons,← r.length,hfs τ ds q],a,[],us,[],ds,o,F1,C,dx,vs,rfl,rfl,x.hh _ _ h2,h3,h4.keep x.ff fun l ws _ e1 e2=>⟨x.hh _ _ e1,?_⟩,x.fh,x.tt R.tt,Reps.nil,r,?_⟩
   ·cases y:F1 l with
    |none=>rfl
    |some u=>
     rcases x.nw l u y with z|z
     ·rw[e2] at z;cases z
     ·rw[e1] at z;cases z
   show match g o ds with
    |.ok d=>Ev X.K F1 H1 Q d
    |_=>False
   have hb:Ok X (Qf (g o ds)) (Ev X.K F H Q):=hb
   cases z:g o ds with
   |ok d=>rw[z] at hb;exact Ev.ext hb x
   |ex c=>rw[z] at hb;exact hb.elim
   |no=>rw[z] at hb;exact hb.elim
theorem w6{g:Fs→List D→Rs D}{p1 apos:Pos}{pl:Sem Bool}(M:MetR X.prog X.w X.K X.mg X.base c m k n ps g)(hr:Room k X.A)(hx:PE X (.Name x p1) (wX i))(ha:PDA X (e::es) fs)(hfs:∀τ ds,fs τ=.ok ds→ds.length=n)
  (hst:starEach (e::es) X.env=(false,eval e X.env)::starEach es X.env:=by rfl) (hpl:(backTo pos (starEach es X.env)).any (·.1)=false:=by rfl)
  (ht:eval (.Call (.Attribute (.Name x p1) m apos) (e::es) [] pos) X.env=(do
   let ov ← eval (.Name x p1) X.env
   standAt apos.atName
   let (f,first) ← holding [ov] (getMethod ov m pl)
   callWith pos f first (backTo pos (starEach (e::es) X.env)) (backToKw pos (keywordEach [] X.env))):=by rfl) :
  PDE X (.Call (.Attribute (.Name x p1) m apos) (e::es) [] pos) (yY i c m g fs):=by
 obtain⟨C,f,fd,hC,cl,hm,F,hb⟩:=M
 exact PE.imp (U9 hx cl hm F hr hb .nil (E:=E0) Vh ha hst hpl ht) fun σ H Q h=>Vq hC hfs h
theorem ze6{σ:St}{H:Hp}{Q:List V→Hp→Prop}(h:tAs X zj σ H Q):za4 σ H Q:=by
 obtain⟨F,τ,R,h⟩:=h
 exact h [] F H (Ext.refl R.fh) Reps.nil
theorem Yu{g:Fs→List D→Rs D}{p1 apos:Pos}{pl:Sem Bool}(M:MetR X.prog X.w X.K X.mg X.base c m k 0 ps g)(hr:Room k X.A)(hx:PE X (.Name x p1) (wX i))
  (ht:eval (.Call (.Attribute (.Name x p1) m apos) [] [] pos) X.env=(do
   let ov ← eval (.Name x p1) X.env
   standAt apos.atName
   let (f,first) ← holding [ov] (getMethod ov m pl)
   callWith pos f first (backTo pos (starEach [] X.env)) (backToKw pos (keywordEach [] X.env))):=by rfl) :
  PDE X (.Call (.Attribute (.Name x p1) m apos) [] [] pos) (yY i c m g zj):=by
 obtain⟨C,f,fd,hC,cl,hm,F,hb⟩:=M
 refine PE.imp (Gk hx cl hm F hr hb .nil (E:=E0) Vh ht) fun σ H Q h=>?_
 obtain⟨v,h1,a,dx,vs,h2,h3,h4,h5⟩:=Vq (n:=0) hC (fun τ ds h=>by cases h;rfl) h
 exact⟨v,h1,a,dx,vs,h2,h3,h4,ze6 h5⟩
noncomputable def jg(i:Nat)(c m:Str)(g:Fs→List D→Rs (D×Fs))(fs:FA):FOb:=fun τ=>(v7 τ i c).bind fun p=>if (vi m p.2).isNone=true then (fs τ).bind fun ds=>(match g p.2 ds with
 | .ok (d,o')=>.ok (d,τ.set i (some (.obj p.1 c o')))
 |_=>.no) else .no
theorem T4{C:Addr}{g:Fs→List D→Rs (D×Fs)}(hC:nsIn X.K mainGlobals c=some (some (.ref C)))(hfs:∀τ ds,fs τ=.ok ds→ds.length=n){σ:St}{H:Hp}{Q:VK}(h:tOb X (jg i c m g fs) σ H Q):UM C m (spM X.K c 0 n g) [] E0 (wX i) (tAs X fs) σ H Q:=by
 obtain⟨B,Z,F,τ,R,h⟩:=h
 obtain⟨t,o,h1,h5⟩:=Z6 (X:=X) h.bind
 dsimp only at h5
 obtain⟨a,q1,C',dx,vs,q2,q3,q4,q5,q6⟩:=R.rv.ob.at_ i t c o h1
 obtain rfl:C=C':=by rw[hC] at q4;cases q4;rfl
 have l:=q5.look (f:=m)
 cases z:vi m o with
 |some d=>rw[z,if_neg (by simp)] at h5;exact h5.elim
 |none=>
  rw[z] at l h5
  rw[if_pos (by rfl)] at h5
  refine⟨_,q1,a,dx,vs,rfl,q2,l,F,τ,R.rv,?_⟩
  have hb:=h5.bind
  cases q:fs τ with
  |no=>rw[q] at hb;exact hb
  |ex c=>rw[q] at hb;exact hb
  |ok ds=>
   rw[q] at hb
   intro us F1 H1 x r
   have R1:=R.ext x
   obtain⟨a',p1,ob⟩:=R1.rv.ob.at_ i t c o h1
   obtain rfl:a'=a:=by rw[q1] at p1;cases p1;rfl
   rw[append_nil]
   refine⟨by rw[length_cons,← r.length,hfs τ ds q],a',[],us,[],ds,o,F1,rfl,rfl,ob,x.fh,R1.rv.tt,Reps.nil,r,?_⟩
   rw[nil_append]
   dsimp only [Ok] at hb
   cases z:g o ds with
   |ok p=>
    obtain⟨d,o'⟩:=p
    rw[z] at hb
    exact fun v F' H' xo ob' nw rep=>hb v F' H' (x.ff.trans xo.ff) (R1.meth h1 q1 xo ob' nw) rep
   |ex c=>rw[z] at hb;exact hb.elim
   |no=>rw[z] at hb;exact hb.elim
theorem Gs{g:Fs→List D→Rs (D×Fs)}{p1 apos:Pos}{pl:Sem Bool}(M:MetM X.prog X.w X.K X.mg X.base c m k n ps g)(hr:Room k X.A)(hx:PE X (.Name x p1) (wX i))(ha:PDA X (e::es) fs)(hfs:∀τ ds,fs τ=.ok ds→ds.length=n)
  (hst:starEach (e::es) X.env=(false,eval e X.env)::starEach es X.env:=by rfl) (hpl:(backTo pos (starEach es X.env)).any (·.1)=false:=by rfl)
  (ht:eval (.Call (.Attribute (.Name x p1) m apos) (e::es) [] pos) X.env=(do
   let ov ← eval (.Name x p1) X.env
   standAt apos.atName
   let (f,first) ← holding [ov] (getMethod ov m pl)
   callWith pos f first (backTo pos (starEach (e::es) X.env)) (backToKw pos (keywordEach [] X.env))):=by rfl) :
  LM X (.Call (.Attribute (.Name x p1) m apos) (e::es) [] pos) (jg i c m g fs):=by
 obtain⟨C,f,fd,hC,cl,hm,F,hb⟩:=M
 exact PE.imp (U9 hx cl hm F hr hb .nil (E:=E0) Vh ha hst hpl ht) fun σ H Q h=>T4 hC hfs h
noncomputable def oOp(op:D→D→Rs D)(fo:FOb)(fb:FE):FOb:=fun τ=>(fo τ).bind fun p=>(fb p.2).bind fun y=>(op p.1 y).bind fun z=>.ok (z,p.2)
theorem zd9{r:R2}{op:D→D→Rs D}(hl:∀F H x y dx dy Q,Same F H→Rep X.K F dx x→Rep X.K F dy y→Ok X (op dx dy) (Ev X.K F H Q)→r x y H Q)
  (σ:St) (H:Hp) (Q:VK) (h:tOb X (oOp op fo fb) σ H Q):tOp r (tOb X fo) (tE X fb) σ H Q:=by
 obtain⟨B,Z,F,τ,R,h⟩:=h
 refine⟨B,Z,F,τ,R,h.bind.imp fun p g v F1 H1 f1 R1 r1=>?_⟩
 refine tE.at R1 g.bind fun y w F2 H2 g2 x2 R2 r2=>?_
 exact hl F2 H2 v w p.1 y Q R2.rv.fh (r1.mono x2.ff) r2 (g2.bind.imp fun z gz u F3 H3 x3 r3=>gz u F3 H3 (f1.trans (x2.ff.trans x3.ff)) (R2.ext x3) r3)
noncomputable def oB(f:FOb):QK:=fun τ=>(f τ).bind fun p=>match p.1 with
 |.bl b=>.ok (b,p.2)
 |_=>.no
theorem Gr{o:CmpOp}{op:D→D→Rs D}(ho:OpD X (compareOp o) op)(ha:LM X a fo)(hb:PDE X b fb)(hm:behindInMarks o b=false):L7 X (.Compare a [o] [b] pos) (oB (oOp op fo fb)):=by
 obtain⟨r,h1,h2⟩:=ho
 refine(U2 h1 ha hb hm).imp fun σ H Q h=>?_
 obtain⟨B,Z,F,τ,R,h⟩:=h
 refine zd9 h2 σ H _ ⟨B,Z,F,τ,R,h.bind.imp fun p g v F1 H1 f1 R1 r1=>?_⟩
 obtain⟨d,τ'⟩:=p
 cases d with
 |bl k=>simp only[Rep] at r1;exact⟨k,r1,g F1 H1 f1 R1⟩
 |_=>exact g.elim
noncomputable def M9(gc:QK)(f g:FS):FS:=fun τ=>Fl.of (gc τ) fun p=>if p.1=true then f p.2 else g p.2
theorem TF{s1 s2:List Stmt}{f g:FS}(hc:L7 X e ga)(h1:uk X s1 f)(h2:uk X s2 g):PDS X (.If e s1 s2 pos) (M9 ga f g):=
 PS.imp (LR hc h1 h2) fun E σ H ⟨B,Z,F,τ,R,h⟩=>⟨B,Z,F,τ,R,h.of.imp fun p q F1 H1 f1 R1=>by
  obtain⟨k,τ'⟩:=p
  cases k with
  |true=>rw[if_pos rfl] at q ⊢;exact⟨B,Z,F1,τ',R1,q.same f1⟩
  |false=>rw[if_neg (by simp)] at q ⊢;exact⟨B,Z,F1,τ',R1,q.same f1⟩⟩
noncomputable def W7(fe:FE):FS:=fun τ=>Fl.of (fe τ) fun d=>.ro d τ
theorem Gp(he:PDE X e fe):PDS X (.Return (some e) pos) (W7 fe):=
 PS.imp (Yo he) fun E σ H z_=>by obtain⟨B,Z,F,τ,R,h⟩:=z_;exact tE.at R h.of fun d v F1 H1 g x R1 r=>g v σ F1 H1 x.ff R1 r
end
section
variable{X:Cx}{pos:Pos}{e a b:Expr}{es rest:List Expr}{fe fb:FE}{fs f1 f2:FA}{c m x y:Str}{i k n j:Nat}{ps:List Str}{fo:FOb}
end
theorem RS.setObj{K:Frag}{B Z F1 F H1 H:Hp}{τ:DS}{σ:St}{i:Nat}{c:Str}{fs:Fs}{a:Addr}(R1:RS K B Z F1 τ σ H1)(ex:Ext F1 H1 F H)(ob:Xu K F H c fs a)(ha:H1 a=none)(hf:∀l∈Lof H c a,H1 l=none) :
  RS K B Z F (τ.set i (some (.obj 0 c fs))) (σ.set i (some (.ref a))) H:=by
 have R:=R1.ext ex
 have len:=R.rv.len
 have lt:∀{j:Nat} {s:Option Sl},(τ.set i (some (.obj 0 c fs)))[j]?=some s→(i=j∧s=some (.obj 0 c fs)∧(σ.set i (some (.ref a)))[j]?=some (some (.ref a)))∨(i≠j∧τ[j]?=some s∧(σ.set i (some (.ref a)))[j]?=σ[j]?):=fun {j s} h=>by
  by_cases e:i=j
  ·subst e
   have hl:i<τ.length:=by
    rcases lt_or_ge i τ.length with z|z
    ·exact z
    ·rw[List.getElem?_eq_none_iff.mpr (by simpa using z)] at h;cases h
   rw[getElem?_set_self hl] at h;cases h
   exact .inl ⟨rfl,rfl,getElem?_set_self (by rw[← len];exact hl)⟩
  ·rw[getElem?_set_ne e] at h
   exact .inr ⟨e,h,getElem?_set_ne e⟩
 have ltS:∀{j:Nat} {c':Str},ObS (τ.set i (some (.obj 0 c fs)))[j]? c'→(i=j∧c'=c∧(σ.set i (some (.ref a)))[j]?=some (some (.ref a)))∨(i≠j∧ObS τ[j]? c'∧(σ.set i (some (.ref a)))[j]?=σ[j]?):=fun {j c'} h=>by
  rcases h with ⟨m,gs,h⟩|⟨gs,h⟩
  ·rcases lt h with ⟨e,z,q⟩|⟨e,z,q⟩
   ·cases z;exact .inl ⟨e,rfl,q⟩
   ·exact .inr ⟨e,.inl ⟨m,gs,z⟩,q⟩
  ·rcases lt h with ⟨e,z,q⟩|⟨e,z,q⟩
   ·cases z
   ·exact .inr ⟨e,.inr ⟨gs,z⟩,q⟩
 have old:∀{j:Nat} {c':Str} {b:Addr},ObS τ[j]? c'→σ[j]?=some (some (.ref b))→b≠a∧∀l∈Lof H c' b,H1 l≠none:=fun {j c' b} h e=>by
  obtain⟨b',C,dx,vs,gs,h1,h2,h3⟩:=R1.rv.ob.get h
  rw[e] at h1;cases h1
  refine⟨fun z=>(by subst z;rw[ha] at h2;cases h2),fun l hl z=>?_⟩
  rw[Lof.ins (ex.hh _ _ h2:H b=some (.ins C dx vs))] at hl
  obtain⟨_,ws,q⟩:=h3.own hl
  rw[z] at q;cases q
 refine⟨⟨R.rv.fh,by simp[len],fun j d h=>?_,fun j ds h=>?_,fun j k ds es b hjk h1 h2 h3 h4=>?_,R.rv.tt,⟨fun j m c1 g h=>?_,fun j k m c1 c2 g1 b hjk h1 h2 h3 h4=>?_,fun j c1 g h=>?_,fun j k m c1 c2 g1 b b' l hjk h1 h2 h3 h4 h5 h6=>?_,fun j k c1 ds b l h1 h2 h3 h4 h5=>?_⟩⟩,R.bh,R.zf,R.nb,fun j ds b h1 h2=>?_,fun j m c1 g b h1 h2=>?_,fun a0 dx b1 b2 j m c1 g h=>?_,fun j c1 g b h1 h2=>?_⟩
 ·rcases lt h with ⟨_,z,_⟩|⟨_,z,q⟩
  ·cases z
  ·rw[q];exact R.rv.val j d z
 ·rcases lt h with ⟨_,z,_⟩|⟨_,z,q⟩
  ·cases z
  ·rw[q];exact R.rv.own j ds z
 ·rcases lt h1 with ⟨_,z,_⟩|⟨_,z1,q1⟩
  ·cases z
  ·rcases lt h2 with ⟨_,z,_⟩|⟨_,z2,q2⟩
   ·cases z
   ·rw[q1] at h3;rw[q2] at h4
    exact R.rv.dis j k ds es b hjk z1 z2 h3 h4
 ·rcases lt h with ⟨_,z,q⟩|⟨_,z,q⟩
  ·cases z;exact⟨a,q,ob⟩
  ·rw[q];exact R.rv.ob.at_ j m c1 g z
 ·rcases lt h1 with ⟨e1,z,q1⟩|⟨_,z1,q1⟩
  ·rw[q1] at h3;cases h3
   rcases ltS h2 with ⟨e2,_,_⟩|⟨_,z2,q2⟩
   ·exact hjk (e1.symm.trans e2)
   ·rw[q2] at h4;exact(old z2 h4).1 rfl
  ·rw[q1] at h3
   rcases ltS h2 with ⟨_,_,q2⟩|⟨_,z2,q2⟩
   ·rw[q2] at h4;cases h4
    exact(old (.inl ⟨m,g1,z1⟩) h3).1 rfl
   ·rw[q2] at h4
    exact R.rv.ob.dis j k m c1 c2 g1 b hjk z1 z2 h3 h4
 ·rcases lt h with ⟨_,z,q⟩|⟨_,z,q⟩
  ·cases z
  ·obtain⟨a',C,dx,vs,r⟩:=R.rv.ob.rd j c1 g z
   exact⟨a',C,dx,vs,by rw[q];exact r.1,r.2⟩
 ·rcases lt h1 with ⟨e1,z,q1⟩|⟨_,z1,q1⟩
  ·cases z
   rw[q1] at h3;cases h3
   rcases ltS h2 with ⟨e2,_,_⟩|⟨_,z2,q2⟩
   ·exact hjk (e1.symm.trans e2)
   ·rw[q2] at h4;exact(old z2 h4).2 l h6 (hf l h5)
  ·rw[q1] at h3
   rcases ltS h2 with ⟨_,ec,q2⟩|⟨_,z2,q2⟩
   ·subst ec
    rw[q2] at h4;cases h4
    exact(old (.inl ⟨m,g1,z1⟩) h3).2 l h5 (hf l h6)
   ·rw[q2] at h4
    exact R.rv.ob.ll j k m c1 c2 g1 b b' l hjk z1 z2 h3 h4 h5 h6
 ·rcases lt h2 with ⟨_,z,_⟩|⟨_,z2,q2⟩
  ·cases z
  ·rw[q2] at h4
   rcases ltS h1 with ⟨_,ec,q1⟩|⟨_,z1,q1⟩
   ·subst ec
    rw[q1] at h3;cases h3
    obtain⟨p,ws,g1,g2,_⟩:=R1.rv.own k ds z2
    rw[h4] at g1;cases g1
    rw[hf l h5] at g2;cases g2
   ·rw[q1] at h3
    exact R.rv.ob.lo j k c1 ds b l z1 z2 h3 h4 h5
 ·rcases lt h1 with ⟨_,z,_⟩|⟨_,z,q⟩
  ·cases z
  ·rw[q] at h2;exact R.ob j ds b z h2
 ·rcases lt h1 with ⟨_,z,q⟩|⟨_,z,q⟩
  ·cases z
   rw[q] at h2;cases h2
   exact⟨xg R1.bh ha,fun l hl=>xg R1.bh (hf l hl)⟩
  ·rw[q] at h2;exact R.oo j m c1 g b z h2
 ·rcases lt h with ⟨_,z,_⟩|⟨_,z,q⟩
  ·cases z
  ·rw[q];exact R.sf a0 dx b1 b2 j m c1 g z
 ·rcases lt h1 with ⟨_,z,_⟩|⟨_,z,q⟩
  ·cases z
  ·rw[q] at h2;exact R.ro j c1 g b z h2
noncomputable def ZC(i:Nat)(c:Str)(g:Fs→List D→Rs (D×Fs))(fs:FA):FS:=fun τ=>Fl.of (fs τ) fun ds=>match g [] ds with
 | .ok (.non,o)=>.nx (τ.set i (some (.obj 0 c o)))
 |_=>.no
section
variable{X:Cx}{pos:Pos}{e:Expr}{es:List Expr}{fs:FA}{c x:Str}{i k n:Nat}{ps:List Str}
theorem T6{C:Addr}{g:Fs→List D→Rs (D×Fs)}(hC:nsIn X.K mainGlobals c=some (some (.ref C)))(hfs:∀τ ds,fs τ=.ok ds→ds.length=n){σ:St}{H B Z F:Hp}{τ:DS}{E:Xx}(R:RS X.K B Z F τ σ H)(h:Post X B Z F E (ZC i c g fs τ)) :
  LO C (spM X.K c 0 n g) [] E0 (tAs X fs) σ H fun v H'=>E.nx (σ.set i (some v)) H':=by
 have hb:=Post.of h
 refine⟨F,τ,R.rv,?_⟩
 cases q:fs τ with
 |no=>rw[q] at hb;exact hb
 |ex c=>rw[q] at hb;exact hb
 |ok ds=>
  rw[q] at hb
  intro us F1 H1 x r y dx hy hdx hne
  have R1:=R.ext x
  have hFy:=zH x.fh hy
  rw[append_nil]
  have hk:∀{b:Addr} {u:HO},H1 b=some u→upd (upd H1 dx (.own y)) y (.ins C dx []) b=some u:=fun {b u} e=>by
   rw[zi (zF e hy),zi (zF e hdx)];exact e
  have hD:upd (upd H1 dx (.own y)) y (.ins C dx []) dx=some (.own y):=by rw[zi hne,zn]
  have hL:Lof (upd (upd H1 dx (.own y)) y (.ins C dx [])) c y=[]:=by rw[Lof.ins zn];rfl
  refine⟨by rw[length_cons,← r.length,hfs τ ds q],y,[],us,[],ds,[],F1,rfl,rfl,⟨C,dx,[],zn,hFy,hC,trivial,hD,by show([]:List Addr).Nodup;exact List.nodup_nil⟩,fun b u e=>hk (x.fh b u e),⟨fun t ht=>?_,fun d b e=>?_⟩,Reps.nil,r,?_⟩
  ·obtain⟨t1,t2⟩:=R1.rv.tt.1 t ht
   refine⟨t1,?_⟩
   rcases t2 with z|⟨c',z,z2⟩
   ·exact .inl (hk z)
   ·exact .inr ⟨c',hk z,hk z2⟩
  ·by_cases zd:d=dx
   ·subst zd;rw[hD] at e;cases e;exact⟨C,d,[],zn⟩
   ·by_cases zy:d=y
    ·subst zy;rw[zn] at e;cases e
    ·rw[zi zy,zi zd] at e
     obtain⟨C',dx',vs,h⟩:=R1.rv.tt.2 d b e
     exact⟨C',dx',vs,hk h⟩
  ·rw[nil_append]
   dsimp only [Ok] at hb
   cases z:g [] ds with
   |ex c=>rw[z] at hb;exact hb.elim
   |no=>rw[z] at hb;exact hb.elim
   |ok p=>
    obtain⟨d,o⟩:=p
    rw[z] at hb
    cases d with
    |non=>
     dsimp only at hb
     intro v F' H' xo ob nw rep
     simp only[Rep] at rep
     refine⟨rep,?_⟩
     have hF':F' y=none:=by obtain⟨_,_,_,_,h,_⟩:=ob;exact h
     have ex:Ext F1 H1 F' H':=⟨xo.ff,Hh.trans (fun b u e=>.of (by rw[vR (zF e hy) (by rw[hL];simp)];exact hk e)) xo.hh,xo.fh,fun b u e=>by
      rcases xo.nw b u e with z|z
      ·exact .inl z
      ·rcases uc z with z|z|z
       ·subst z;rw[hF'] at e;cases e
       ·rw[hL] at z;cases z
       ·by_cases n:b=y
        ·subst n;rw[zn] at z;cases z
        ·rw[zi n] at z
         by_cases n2:b=dx
         ·subst n2;rw[zn] at z;cases z
         ·rw[zi n2] at z;exact .inr z,fun _=>xo.tt⟩
     refine hb _ F' H' (x.ff.trans xo.ff) (R1.setObj ex ob hy fun l hl=>?_)
     rcases nw l hl with z|z
     ·rw[hL] at z;cases z
     ·by_cases n:l=y
      ·subst n;exact hy
      ·rw[zi n] at z
       by_cases n2:l=dx
       ·subst n2;exact hdx
       ·rw[zi n2] at z;exact z
    |_=>exact hb.elim
theorem Vf{g:Fs→List D→Rs (D×Fs)}{p1 pos' cpos:Pos}(M:ClsM X.prog X.w X.K X.mg X.base c k n ps g)(hr:Room (k+1) X.A)(hg:Gl X c)(ha:PDA X (e::es) fs)(hfs:∀τ ds,fs τ=.ok ds→ds.length=n)
  (hN:X.N.Nodup) (hi:X.N[i]?=some x) (hx:Loc X.env.scope x) (hdb:(c==("__debug__" : Str))=false:=by decide) (hst:starEach (e::es) X.env=(false,eval e X.env)::starEach es X.env:=by rfl) (hpl:(backTo cpos (starEach es X.env)).any (·.1)=false:=by rfl)
  (hs:swapsWith (.Call (.Name c p1) (e::es) [] cpos) (some (.Name x pos')) pos.line X.env=pure false:=by rfl) (hf:X.fn x=true∨X.env.scope.names.lookup x=some .local:=by first|exact .inl rfl|exact .inr rfl|assumption) :
  PDS X (.Assign [.Name x pos'] (.Call (.Name c p1) (e::es) [] cpos) pos) (ZC i c g fs):=by
 obtain⟨C,f,fd,hC,hm,M,F,hb⟩:=M
 exact PS.imp (Yn hN hi hx (Tv M F hr hg hm hb .nil (E:=E0) Vh ha hdb hst hpl) hs hf) fun E σ H z_=>by obtain⟨B,Z,F,τ,R,h⟩:=z_;exact T6 hC hfs R h
end
structure ClsAt(K:Frag)(mg:Str→Option Value)(c:Str)(C:Addr):Prop where
 ns:nsIn K mainGlobals c=some (some (.ref C))
 cls:Cls K C
 at_:mg c=some (.ref C)
section
variable{P:Program}{w:World}{K:Frag}{mg:Str→Option Value}{base:Heap}
theorem MetM.mk{c m qual:Str}{C:Addr}{st:Stmt}{f:Addr}{fd:FuncData}{N ps:List Str}{k n:Nat}{fb:FS}(A:ClsAt K mg c C)(hm:Xv K C m f)(D:Fun K m qual st f fd)(S:zJ N ps (zh st))(hn:ps.length=n+1)
  (hb:∀(kV doc pm:Value) (an:Option Addr) (cdv ct:Value) (us:List Value),us.length=ps.length→bindArgs (fnOf m qual (zI st) (zB st) (zh st) .none kV doc pm an cdv ct) ⟨us,[]⟩=pure (ps.zip us))
  (hbody:∀(cdv:Value) (A:Around) (outer:List Env) (s:Shared) (H:Hp) (E:XK),Room k (A.deeper (envOfC qual (zh st) s.heap.objs.size f cdv)) →
   uk (j5 CX0 P w K mg base N qual (zh st) f cdv A outer s H E).nox (zB st) fb):MetM P w K mg base c m (k+1) n ps (W9 N.length 0 c fb):=
 ⟨C,f,fd,A.ns,A.cls,hm,fnM D S hn hbody,D.binds hb⟩
theorem MetR.mk{c m qual:Str}{C:Addr}{st:Stmt}{f:Addr}{fd:FuncData}{N ps:List Str}{k n:Nat}{fb:FS}(A:ClsAt K mg c C)(hm:Xv K C m f)(D:Fun K m qual st f fd)(S:zJ N ps (zh st))(hn:ps.length=n+1)
  (hb:∀(kV doc pm:Value) (an:Option Addr) (cdv ct:Value) (us:List Value),us.length=ps.length→bindArgs (fnOf m qual (zI st) (zB st) (zh st) .none kV doc pm an cdv ct) ⟨us,[]⟩=pure (ps.zip us))
  (hbody:∀(cdv:Value) (A:Around) (outer:List Env) (s:Shared) (H:Hp) (E:XK),Room k (A.deeper (envOfC qual (zh st) s.heap.objs.size f cdv)) →
   uk (j5 CX0 P w K mg base N qual (zh st) f cdv A outer s H E).nox (zB st) fb):MetR P w K mg base c m (k+1) n ps (Ua N.length 0 c fb):=
 ⟨C,f,fd,A.ns,A.cls,hm,fnR D S hn hbody,D.binds hb⟩
theorem ClsM.mk{c qual:Str}{C:Addr}{st:Stmt}{f:Addr}{fd:FuncData}{N ps:List Str}{k n:Nat}{fb:FS}(A:ClsAt K mg c C)(hm:Mk K C f)(D:Fun K "__init__" qual st f fd)(S:zJ N ps (zh st))(hn:ps.length=n+1)
  (hb:∀(kV doc pm:Value) (an:Option Addr) (cdv ct:Value) (us:List Value),us.length=ps.length→bindArgs (fnOf "__init__" qual (zI st) (zB st) (zh st) .none kV doc pm an cdv ct) ⟨us,[]⟩=pure (ps.zip us))
  (hbody:∀(cdv:Value) (A:Around) (outer:List Env) (s:Shared) (H:Hp) (E:XK),Room k (A.deeper (envOfC qual (zh st) s.heap.objs.size f cdv)) →
   uk (j5 CX0 P w K mg base N qual (zh st) f cdv A outer s H E).nox (zB st) fb):ClsM P w K mg base c (k+1) n ps (W9 N.length 0 c fb):=
 ⟨C,f,fd,A.ns,A.at_,hm,fnM D S hn hbody,D.binds hb⟩
end
noncomputable def ItH(K:Frag)(J:It)(F1 H1:Hp)(ds:List D):Prop:=∀(i:Nat) (F H:Hp),Same F1 F→Same F H→Hh H1 H →
 (ds.length≤i→J.stop i H)∧∀d,ds[i]?=some d→J.go i H∧∀x H',J.yld i H x H'→∃F',Ext F H F' H'∧Rep K F' d x
noncomputable def tIh(X:Cx)(f:FA):TI:=fun σ H R=>∃F τ,RV X.K F τ σ H∧Ok X (f τ) fun ds=>∀J F1 H1,Ext F H F1 H1→ItH X.K J F1 H1 ds→R J H1
noncomputable def MT(X:Cx)(tg iter:Expr)(f:FA):Prop:=PI X tg iter (tIh X f)
theorem PDI.h{X:Cx}{tg e:Expr}{f:FA}(h:PDI X tg e f):MT X tg e f:=PI.imp h fun σ H R z_=>by obtain⟨F,τ,Rv,q⟩:=z_;exact⟨F,τ,Rv,q.imp fun ds g J F1 H1 x io=>g J F1 H1 x fun i F H a b _=>io i F H a b⟩
section
variable{X:Cx}{scope:Scope}{tn fr:List Str}{idx:List Nat}{tg iter elt:Expr}{ifs:List Expr}{pos:Pos}{fi:FA}{set:FG}{ft:FT}{fe:FE}
theorem jE(so:Wf set){Y:Cx}(hK:Y.K=X.K)(σ:St)(H:Hp)(Q:VK)(h:tFr X (xI tn.length idx fi set ft fe) σ H Q):UN (wv tn.length idx) (tIh X fi) (tG Y set) (tTs Y ft) (tE Y fe) σ H Q:=by
 obtain⟨F,τ,R,h⟩:=h
 refine⟨F,τ,R,h.bind.imp fun ds gds J F1 H1 x io=>fun acc hacc=>?_⟩
 cases q:vU set ft fe (vC tn.length idx τ) ds with
 |no=>rw[q] at gds;exact gds.elim
 |ex c=>rw[q] at gds;exact gds.elim
 |ok xs=>
  rw[q] at gds
  obtain⟨hz,k⟩:=yL gds
  have R1:=R.ext x
  have hF1:F1 acc=none:=zH x.fh hacc
  refine⟨fun i m σ1 Hc=>m=ds.length-i∧i≤ds.length∧∃F2 Hm τ1 dn rs vs,CWH X.K set ft fe (vC tn.length idx τ) ds xs F1 H1 acc i σ1 Hc F2 Hm τ1 dn rs vs,⟨ds.length,by simp,zero_le _,F1,H1,_,[],xs,[],Ext.refl x.fh,hacc,rfl,Reps.nil,?_,v9 _ _ _,fun _=>rfl,q,rfl⟩,?_⟩
  ·exact(Td tn.length idx R1).free_upd (v9 _ _ _) hacc hF1 (.inl hacc)
  rintro i m σ1 Hc ⟨rfl,hi,F2,Hm,τ1,dn,rs,vs,x2,hm,rfl,r2,R2,n2,so2,cl,ex⟩
  obtain⟨i1,i2⟩:=io i F2 _ x2.ff R2.rv.fh (x2.hh.trans (.of (z7 hm)))
  by_cases hlt:i<ds.length
  ·have hd:ds.drop i=ds[i]::ds.drop (i+1):=drop_eq_getElem_cons hlt
   rw[hd,vU] at cl
   obtain⟨go,yl⟩:=i2 ds[i] (by simp[hlt])
   refine .inr ⟨go,fun y H' yy=>?_⟩
   obtain⟨F3,x3,r3⟩:=yl y H' yy
   refine⟨F3,τ1,ds[i],by rw[hK];exact(R2.ext x3).rv,by rw[hK];exact r3,?_⟩
   rw[so2]
   cases e1:set ds[i] (vC tn.length idx τ) with
   |no=>rw[e1] at cl;cases cl
   |ex c=>rw[e1] at cl;cases cl
   |ok τ2=>
    rw[e1] at cl
    simp only at cl
    intro σ2 _ RR _
    rw[hK] at RR
    have RR:=RR _ _ (R2.ext x3)
    have n3:=so.no _ _ _ e1 (v9 _ _ _)
    have so3:∀d,set d τ2=set d (vC tn.length idx τ):=fun d=>so.ov d _ _ _ e1
    cases e2:ft τ2 with
    |no=>rw[e2] at cl;cases cl
    |ex c=>rw[e2] at cl;cases cl
    |ok b=>
     rw[e2] at cl
     refine⟨F3,τ2,by rw[hK];exact RR.rv,?_⟩
     rw[e2]
     intro F4 H4 x4
     have x34:=x3.trans x4
     cases b with
     |false=>
      simp only at cl
      rw[if_neg (by simp)]
      obtain⟨y1,y2⟩:=Y1 x2 hm x34
      have ha:H4 acc=some (.lst vs):=x34.hh acc _ zn
      have eH:H4=upd (wS H4 acc) acc (.lst vs):=by
       rw[Yf];funext b;unfold upd;split
       ·rename_i z;subst z;exact ha
       ·rfl
      refine⟨ds.length-(i+1),by lia,rfl,hlt,F4,wS H4 acc,τ2,dn,rs,vs,y1,uK _ _,eH,r2.mono x34.ff,RR.ext x4,n3,so3,cl,ex⟩
     |true=>
      simp only at cl
      rw[if_pos rfl]
      cases e3:fe τ2 with
      |no=>rw[e3] at cl;cases cl
      |ex c=>rw[e3] at cl;cases cl
      |ok z=>
       rw[e3] at cl
       simp only at cl
       cases e4:vU set ft fe (vC tn.length idx τ) (ds.drop (i+1)) with
       |no=>rw[e4] at cl;cases cl
       |ex c=>rw[e4] at cl;cases cl
       |ok rs'=>
        rw[e4] at cl
        have ers:z::rs'=rs:=by simpa using cl
        refine⟨F4,τ2,by rw[hK];exact(RR.ext x4).rv,?_⟩
        rw[e3]
        intro v F5 H5 x5 r5
        rw[hK] at r5
        have x35:=x34.trans x5
        obtain⟨y1,y2⟩:=Y1 x2 hm x35
        refine⟨vs,x35.hh acc _ zn,?_,ds.length-(i+1),by lia,rfl,hlt,F5,wS H5 acc,τ2,dn++[z],rs',vs++[v],y1,uK _ _,by rw[Yf],(r2.mono x35.ff).append (Reps.cons r5 Reps.nil),?_,n3,so3,e4,?_⟩
        ·have:=congrArg List.length ex
         rw[← ers,length_append,length_cons,r2.length] at this
         lia
        ·exact((RR.ext x4).ext x5).free_upd n3 hacc y2 (.inr ⟨_,x35.hh acc _ zn⟩)
        ·rw[ex,← ers,append_assoc];rfl
  ·have e:i=ds.length:=by lia
   subst e
   rw[drop_length,vU] at cl
   cases cl
   rw[append_nil] at ex
   subst ex
   exact .inl ⟨i1 (le_refl _),k acc vs F2 Hm (x.trans x2) hm r2⟩
theorem wf(hb:uf X.env.scope scope=true)(hc:X.calm=true)(hfr:FreeOk scope X.N fr idx)(so:Wf set)(hi:MT X tg iter fi)
  (hg:∀s H C fp,PDG (X.comp scope (tn++fr) s H C fp) tg set) (ht:∀s H C fp,MS (X.comp scope (tn++fr) s H C fp) ifs ft) (he:∀s H C fp,PDE (X.comp scope (tn++fr) s H C fp) elt fe)
  (hs:∀x,foldedSetIterable iter X.env x=pure x:=by intro _;rfl):PDF X (.ListComp elt [⟨tg,iter,ifs,0⟩] scope pos) (xI tn.length idx fi set ft fe):=
 PE.imp (Ja (s0:=wv tn.length idx) (g:=tG (X.comp scope (tn++fr) X.s₀ X.H₀ 0 []) set) (ti:=tTs (X.comp scope (tn++fr) X.s₀ X.H₀ 0 []) ft) (te:=tE (X.comp scope (tn++fr) X.s₀ X.H₀ 0 []) fe)
  (wt hb) hc (fun σ _=>by simp[wv,hfr.len]) (jM hfr) hi hg ht he hs) (jE so rfl)
theorem J8{i:Nat}{y:Str}{py spos:Pos}(hN:X.N.Nodup)(hiN:X.N[i]?=some y)(hy:X.env.scope.names.lookup y=some .local)
  (hsw:swapsWith (.ListComp elt [⟨tg,iter,ifs,0⟩] scope pos) (some (.Name y py)) spos.line X.env=pure true)
  (hb:uf X.env.scope scope=true) (hc:X.calm=true) (hfr:FreeOk scope X.N fr idx) (so:Wf set) (hi:MT X tg iter fi)
  (hg:∀s H C fp,PDG (X.comp scope (tn++fr) s H C fp) tg set) (ht:∀s H C fp,MS (X.comp scope (tn++fr) s H C fp) ifs ft) (he:∀s H C fp,PDE (X.comp scope (tn++fr) s H C fp) elt fe)
  (hs:∀x,foldedSetIterable iter X.env x=pure x:=by intro _;rfl):PDS X (.Assign [.Name y py] (.ListComp elt [⟨tg,iter,ifs,0⟩] scope pos) spos) (y3 i fun τ=>(xI tn.length idx fi set ft fe τ).bind fun ds=>.ok (.lst ds)):=
 PS.imp (U6 (s0:=wv tn.length idx) (g:=tG (X.comp scope (tn++fr) X.s₀ X.H₀ 0 []) set) (ti:=tTs (X.comp scope (tn++fr) X.s₀ X.H₀ 0 []) ft) (te:=tE (X.comp scope (tn++fr) X.s₀ X.H₀ 0 []) fe) hN hiN hy hsw
  (wt hb) hc (fun σ _=>by simp[wv,hfr.len]) (jM hfr) hi hg ht he hs) fun E σ H ⟨B,Z,F,τ,R,h⟩=>by
  refine jE (X:=X) (tn:=tn) (idx:=idx) (fi:=fi) (ft:=ft) (fe:=fe) so (Y:=X.comp scope (tn++fr) X.s₀ X.H₀ 0 []) rfl σ H (fun x H1=>X9 i x σ H1 E.nx) ⟨F,τ,R.rv,?_⟩
  have h':=h.of.bind
  refine h'.imp fun ds g p vs F1 H1 x hp r=>?_
  have x2:=x.trans (Ext.new (o:=.lst vs) x.fh hp)
  refine g _ _ _ x2.ff ((R.ext x2).set ?_)
  simp only[Rep]
  exact⟨p,vs,rfl,zn,r.mono (z7 (zH x.fh hp))⟩
theorem Ug{i:Nat}{y:Str}{py spos:Pos}(hN:X.N.Nodup)(hiN:X.N[i]?=some y)(hy:X.env.scope.names.lookup y=some .local)
  (hsw:swapsWith (.ListComp elt [⟨tg,iter,ifs,0⟩] scope pos) (some (.Name y py)) spos.line X.env=pure true)
  (hb:uf X.env.scope scope=true) (hc:X.calm=true) (hfr:FreeOk scope X.N fr idx) (so:Wf set) (hi:MT X tg iter fi)
  (hg:∀s H C fp,PDG (X.comp scope (tn++fr) s H C fp) tg set) (ht:∀s H C fp,MS (X.comp scope (tn++fr) s H C fp) ifs ft) (he:∀s H C fp,PDE (X.comp scope (tn++fr) s H C fp) elt fe)
  (hs:∀x,foldedSetIterable iter X.env x=pure x:=by intro _;rfl):PDS X (.Assign [.Name y py] (.ListComp elt [⟨tg,iter,ifs,0⟩] scope pos) spos) (vN i (xI tn.length idx fi set ft fe)):=
 PS.imp (U6 (s0:=wv tn.length idx) (g:=tG (X.comp scope (tn++fr) X.s₀ X.H₀ 0 []) set) (ti:=tTs (X.comp scope (tn++fr) X.s₀ X.H₀ 0 []) ft) (te:=tE (X.comp scope (tn++fr) X.s₀ X.H₀ 0 []) fe) hN hiN hy hsw
  (wt hb) hc (fun σ _=>by simp[wv,hfr.len]) (jM hfr) hi hg ht he hs) fun E σ H ⟨B,Z,F,τ,R,h⟩=>by
  refine jE (X:=X) (tn:=tn) (idx:=idx) (fi:=fi) (ft:=ft) (fe:=fe) so (Y:=X.comp scope (tn++fr) X.s₀ X.H₀ 0 []) rfl σ H (fun x H1=>X9 i x σ H1 E.nx) ⟨F,τ,R.rv,?_⟩
  exact h.of.imp fun ds g p vs F1 H1 x hp r=>g _ F1 _ x.ff ((R.ext x).setO hp r)
end
section
variable{X:Cx}{pos:Pos}{e tg:Expr}{es:List Expr}{fe:FE}{fs:FA}{c f x:Str}{i:Nat}{C:Addr}
theorem itl_h{K:Frag}{F H H1:Hp}{l:Addr}{ds:List D}{ws:List V}{i:Nat}(hl:H1 l=some (.lst ws))(hh:Hh H1 H)(fh:Same F H)(r:Reps K F ds ws) :
  (ds.length≤i→(Itl K l).stop i H)∧∀d,ds[i]?=some d→(Itl K l).go i H∧∀x H',(Itl K l).yld i H x H'→∃F',Ext F H F' H'∧Rep K F' d x:=by
 have q:SqL K H l ws:=SqL.of (hh _ _ hl)
 refine⟨fun h=>⟨ws,q,by rw[← r.length];exact h⟩,fun d hd=>?_⟩
 obtain⟨v,h1,h2⟩:=r.get hd
 refine⟨⟨ws,v,q,h1⟩,fun x H' y=>?_⟩
 obtain⟨e1,y⟩:=y
 subst e1
 have h3:=y ws q
 rw[h1] at h3;cases h3
 exact⟨F,Ext.refl fh,h2⟩
noncomputable def J4(τ:DS)(i:Nat)(c f:Str):Rs (List D):=match τ[i]? with
 | some (some (.obr c' fs))=>if c'=c then (match vi f fs with
  | some (.lst ds)=>.ok ds
  |_=>.no) else .no
 |_=>.no
theorem Te{X:Cx}{B Z F H:Hp}{τ:DS}{σ:St}{P:List D→Prop}(R:RS X.K B Z F τ σ H)(ho:Tabs.own c f=true)(h:Ok X (J4 τ i c f) P) :
  ∃ds a C dx vs l ws,σ[i]?=some (some (.ref a))∧H a=some (.ins C dx vs)∧nsIn X.K mainGlobals c=some (some (.ref C))∧vs.lookup f=some (.ref l)∧B l=some (.lst ws)∧Reps X.K F ds ws∧P ds:=by
 unfold J4 at h
 split at h
 ·rename_i c' fs e
  by_cases z:c'=c
  ·subst z
   rw[if_pos rfl] at h
   obtain⟨a,C,dx,vs,h1,h2,h4,h5⟩:=R.rv.ob.rd i c' fs e
   obtain⟨C2,dx2,vs2,b1,b2⟩:=R.ro i c' fs a e h1
   have hb:H a=some (.ins C2 dx2 vs2):=R.bh _ _ b1
   rw[h2] at hb;cases hb
   have l:=h5.look (f:=f)
   cases q:vi f fs with
   |none=>rw[q] at h;exact h.elim
   |some d=>
    rw[q] at h l
    obtain⟨v,l1,l2⟩:=l
    unfold Z2 at l2
    rw[if_pos ho] at l2
    obtain⟨ds,p,ws,rfl,rfl,e3,e4,e5⟩:=l2
    obtain⟨ws2,b3⟩:=b2 p (uY ho l1)
    have:H p=some (.lst ws2):=R.bh _ _ b3
    rw[e3] at this;cases this
    exact⟨ds,a,C,dx,vs,p,ws,h1,h2,h4,l1,b3,e5,h⟩
  ·rw[if_neg z] at h;exact h.elim
 ·exact h.elim
end
section
variable{P:Program}{w:World}{K:Frag}{mg:Str→Option Value}{base:Heap}
end
section
variable{X:Cx}{pos:Pos}{e:Expr}{es:List Expr}{fs:FA}{c c2 m x y:Str}{i k n h_:Nat}{ps:List Str}
end
section
variable{X:Cx}{pos:Pos}{e a b:Expr}{es:List Expr}{fe fa fb fi:FE}{C:Addr}{c f x:Str}{i:Nat}
end
omit [Tabs] in
theorem vals_ints:∀{vs:List Value} {ns:List Int},IntsAre vs ns→Vals (ns.map V.int) vs
 |_,_,.nil=>.nil
 |_,_,.cons n t r=>.cons ⟨t,rfl⟩ (vals_ints r)
section
variable{X:Cx}{pins:List (Addr×Obj)}{σ:St}{F H:Hp}{s:Shared}{Q:VK}{E:Value→Shared→Prop}
end
theorem Md{K:Frag}{F1 H1:Hp}{l:Addr}{ds:List D}{vs:List V}(hl:H1 l=some (.lst vs))(r:Reps K F1 ds vs):ItH K (Itn K l) F1 H1 (y9 0 ds):=fun i F H f1 f2 hh=>by
 have q:SqL K H l vs:=SqL.of (hh _ _ hl)
 have hl:=ud ds 0
 have hr:=r.length
 refine⟨fun h=>⟨vs,q,by lia⟩,fun p hp=>?_⟩
 obtain⟨d,h2,rfl⟩:=ue hp
 have l2:i<vs.length:=by have:=(List.getElem?_eq_some_iff.mp h2).1;lia
 refine⟨⟨vs,q,l2⟩,fun y H' yy=>?_⟩
 obtain⟨pa,v,hp,q',rfl,rfl⟩:=yy
 refine⟨upd F pa (.tup [.int i,v]),Ext.new f2 hp,?_⟩
 simp only[Rep]
 refine⟨pa,_,rfl,SqT.of zn,Reps.cons (by simp only[Rep,zero_add]) (Reps.cons ?_ Reps.nil)⟩
 obtain⟨v',hv',rv'⟩:=r.get h2
 have e3:=q' vs q
 rw[hv'] at e3;cases e3
 exact(rv'.mono f1).mono (z7 (zH f2 hp))
noncomputable def Ll(i:Nat)(c f:Str):FA:=fun τ=>(Qa τ i c f).bind fun ds=>.ok (y9 0 ds)
section
variable{X:Cx}{pos:Pos}{C:Addr}{c f x:Str}{i:Nat}
theorem TJ{p p1 p2:Pos}{elts:List Expr}{x1}{tpos:Pos}(hx:PE X (.Name x p1) (wX i))(hC:nsIn X.K mainGlobals c=some (some (.ref C)))(cl:Cls X.K C)(na:NoAttr X.K C f)(hg:Gl X "enumerate")(hm:X.mg "enumerate" = none)(ho:Tabs.own c f=true:=by rfl)
  (hs:starEach [.Attribute (.Name x p1) f p2] X.env=[(false,eval (.Attribute (.Name x p1) f p2) X.env)]:=by rfl) :
  MT X (.Tuple elts x1 tpos) (.Call (.Name "enumerate" p) [.Attribute (.Name x p1) f p2] [] pos) (Ll i c f):=
 PI.imp (U7 hg hm (uX (U8 hx) Zn (by rw[hs];rfl)) hs) fun σ H R z_=>by
  obtain⟨F,τ,Rv,h⟩:=z_
  obtain⟨ds,a,C',dx,vs,l,ws,h1,h2,h3,h4,h5,h6,h7,h8⟩:=Je Rv ho (Ok.bind h)
  obtain rfl:C=C':=by rw[hC] at h3;cases h3;rfl
  exact⟨_,h1,a,C,dx,vs,.ref l,rfl,h2,cl,na,h4,l,ws,rfl,SqL.of h5,h8 _ F H (Ext.refl Rv.fh) (Md h5 h7)⟩
end
open PySem.W
section
variable{P:Program}{w:World}{K:Frag}{mg:Str→Option Value}{base:Heap}
end
section
variable{P:Program}{w:World}{K:Frag}{mg:Str→Option Value}{base:Heap}
end
section
variable{X:Cx}{pos:Pos}{e:Expr}{es:List Expr}{fe:FE}{ff:FA}{c m x:Str}{i k n h_:Nat}{ps:List Str}
end
end FD
set_option Elab.async false
set_option linter.all false
namespace STW
open PySem
noncomputable abbrev Ris(l:List Nat):Prop:=l.Pairwise (· < ·)
noncomputable def TT(L:Bool)(t:SetTable):Prop:=t.led=L∧t.dummies = #[]∧Ris t.place.toList
section
variable{prog:Program}{w:World}{K:Type}[DecidableEq K]{knd:KeyKind prog w K}{A:Around}{E:Value→Shared→Prop}{s:Shared}{L:Bool}{a:Addr}{S:K→Bool}{n:Nat}{k:K}{x:Value}
noncomputable def SetT(knd:KeyKind prog w K)(L:Bool)(h:Heap)(a:Addr)(S:K→Bool)(n:Nat):Prop:=
 ∃o es ep t,h.get? a=some o∧o.ExactSet∧o.data=.set es ep t∧ElemsOf knd es.toList∧(∀k,S k=true↔∃e∈es.toList,knd.is k e.2=true)∧es.size<scanBound∧t.fits es.size=true∧es.size=n∧TT L t
theorem stored{h:Heap}{o:Obj}{es:Array (Int×Value)}{ep:Nat}{t:SetTable}(ho:h.get? a=some o)(hx:o.ExactSet)(hd:o.data=.set es ep t){es':Array (Int×Value)}{t':SetTable}{S':K→Bool}(p1:ElemsOf knd es'.toList)
  (p2:∀k,S' k=true↔∃e∈es'.toList,knd.is k e.2=true) (p3:es'.size<scanBound) (p4:t'.fits es'.size=true) (p5:TT L t') :
  (h.update a (Obj.putSet es' t')).get? a=some { o with data:=.set es' (ep+1) t' }∧SetT knd L (h.update a (Obj.putSet es' t')) a S' es'.size:=by
 obtain⟨g,_⟩:=SetOf_store (knd:=knd) ho hx hd p1 p2 p3 p4
 exact⟨g,_,es',ep+1,t',g,hx,rfl,p1,p2,p3,p4,rfl,p5⟩
end
open PyProof.Rows
section
variable{prog:Program}{w:World}{A:Around}{R:Result→Shared→Prop}{I:Addr}{fp wr:List Addr}{G:Array GenState→Array GenState→Prop}{n:Nat}{P:Nat→Value→Prop}{St:Nat→Shared→Prop}{L:Bool}
end
section
variable{prog:Program}{w:World}{A:Around}{E:Value→Shared→Prop}{s:Shared}
end
open PyProof.Rows
section
variable{prog:Program}{w:World}{A:Around}{E:Value→Shared→Prop}{s:Shared}
end
open PyProof.Rows
namespace FS
end FS
section
variable{prog:Program}{w:World}{A:Around}{E:Value→Shared→Prop}{s:Shared}
end
open PySem PyProof.Rows
section
variable{prog:Program}{w:World}{A:Around}{E:Value→Shared→Prop}{s:Shared}{I a:Addr}{es:Array (Int×Value)}{ep:Nat}{t:SetTable}{Q:Option Value→Shared→Prop}
end
open PySem PyProof.Rows
section
variable{prog:Program}{w:World}{A:Around}{E:Value→Shared→Prop}{s:Shared}{I a:Addr}{es:Array (Int×Value)}{ep:Nat}{t:SetTable}
end
open PySem PyProof.Rows
section
variable{prog:Program}{w:World}{A:Around}{E:Value→Shared→Prop}{s:Shared}{I a T:Addr}{es:Array (Int×Value)}{ep:Nat}{t:SetTable}{Q:Option Value→Shared→Prop}
end
open PySem PyProof.Rows
section
variable{prog:Program}{w:World}{A:Around}{E:Value→Shared→Prop}{s:Shared}{a:Addr}{es:Array (Int×Value)}{ep:Nat}{t:SetTable}
end
open PySem PyProof.Rows
section
variable{prog:Program}{w:World}{A:Around}{E:Value→Shared→Prop}{s:Shared}{a:Addr}{es:Array (Int×Value)}{ep:Nat}{t:SetTable}
end
open PySem PyProof.Rows
section
variable{prog:Program}{w:World}{A:Around}{E:Value→Shared→Prop}{s:Shared}{a:Addr}{es:Array (Int×Value)}{ep:Nat}{t:SetTable}
end
open PySem PyProof.Rows
section
variable{prog:Program}{w:World}{A:Around}{E:Value→Shared→Prop}{s:Shared}{a:Addr}{ns:List Int}{n:Nat}
end
end STW
set_option Elab.async false
set_option linter.all false
set_option maxRecDepth 100000
namespace FD
open PySem PySem.Spec PyProof.Rows L2
variable[Tabs]
section
variable{X:Cx}{e:Expr}{pos:Pos}{fs:FA}
end
section
variable{X:Cx}
end
end FD
set_option Elab.async false
set_option linter.all false
namespace L2
open PySem PySem.Spec PyProof.Rows
section
variable{κ:Type}[DecidableEq κ]
noncomputable def ja(kvs:List (κ×V))(k:κ):Option V:=(kvs.find? fun kv=>decide (kv.1=k)).map (·.2)
noncomputable def Zi(kvs:List (κ×V))(k:κ)(v:V):List (κ×V):=
 if (kvs.any fun kv=>decide (kv.1=k))=true then kvs.map (fun kv=>if kv.1=k then (kv.1,v) else kv) else kvs++[(k,v)]
theorem uu{p:κ×V}{r:List (κ×V)}{k:κ}(e:p.1=k):ja (p::r) k=some p.2:=by simp[ja,find?_cons,e]
theorem uv{p:κ×V}{r:List (κ×V)}{k:κ}(e:¬ p.1=k):ja (p::r) k=ja r k:=by simp[ja,find?_cons,e]
theorem WS(k:κ):∀kvs:List (κ×V),(kvs.any fun kv=>decide (kv.1=k))=(ja kvs k).isSome:=by
 intro l_
 induction l_ with
 |nil=>
  exact rfl
 |cons p r ih_=>
  rw[any_cons]
  by_cases e:p.1=k
  ·simp only[uu e,decide_eq_true e,Bool.true_or,Option.isSome_some]
  ·rw[uv e,decide_eq_false e,Bool.false_or];exact ih_
theorem ZH(kvs:List (κ×V))(k:κ)(v:V):(Zi kvs k v).length≤kvs.length+1:=by
 unfold Zi
 split
 ·rw[length_map];lia
 ·rw[length_append,length_cons,length_nil];lia
theorem RelO.isSome_eq{o:Option V}{u:Option Value}(r:RelO o u):o.isSome=u.isSome:=by
 cases o with
 |none=>cases u with
  |none=>rfl
  |some _=>exact(show False from r).elim
 |some _=>cases u with
  |none=>exact(show False from r).elim
  |some _=>rfl
theorem RelO.getD{o:Option V}{u:Option Value}{d:V}{d':Value}(r:RelO o u)(rd:RelV d d'):RelV (o.getD d) (u.getD d'):=by
 cases o with
 |none=>cases u with
  |none=>exact rd
  |some _=>exact(show False from r).elim
 |some _=>cases u with
  |none=>exact(show False from r).elim
  |some _=>exact r
theorem KV.val{kvs:List (κ×V)}{vs:List (κ×Value)}(r:KV kvs vs)(k:κ):RelO (ja kvs k) (valueAt vs k):=by
 unfold KV at r
 induction r with
 |nil=>exact True.intro
 | @cons p q ps qs h t ih=>
  obtain⟨h1,h2⟩:=h
  by_cases e:p.1=k
  ·have e':q.1=k:=h1.symm.trans e
   have b:valueAt (q::qs) k=some q.2:=by simp[valueAt,find?_cons,e']
   rw[uu e,b];exact h2
  ·have e':¬ q.1=k:=fun z=>e (h1.trans z)
   have b:valueAt (q::qs) k=valueAt qs k:=by simp[valueAt,find?_cons,e']
   rw[uv e,b];exact ih
theorem KV.any{kvs:List (κ×V)}{vs:List (κ×Value)}(r:KV kvs vs)(k:κ):(kvs.any fun kv=>decide (kv.1=k))=vs.any fun kv=>decide (kv.1=k):=by
 unfold KV at r
 induction r with
 |nil=>rfl
 |cons h t ih=>rw[any_cons,any_cons,ih,h.1]
theorem KV.repl{kvs:List (κ×V)}{vs:List (κ×Value)}(r:KV kvs vs)(k:κ){y:V}{u:Value}(ry:RelV y u) :
  KV (kvs.map fun kv=>if kv.1=k then (kv.1,y) else kv) (vs.map fun kv=>if kv.1=k then (kv.1,u) else kv):=by
 unfold KV at r ⊢
 induction r with
 |nil=>exact .nil
 | @cons p q ps qs h t ih=>
  rw[map_cons,map_cons]
  refine .cons ?_ ih
  obtain⟨h1,h2⟩:=h
  by_cases e:p.1=k
  ·rw[if_pos e,if_pos (h1.symm.trans e)];exact⟨h1,ry⟩
  ·rw[if_neg e,if_neg (fun z=>e (h1.trans z))];exact⟨h1,h2⟩
theorem KV.put{kvs:List (κ×V)}{vs:List (κ×Value)}(r:KV kvs vs)(k:κ){y:V}{u:Value}(ry:RelV y u):KV (Zi kvs k y) (stored vs k u):=by
 unfold Zi stored
 rw[r.any k]
 by_cases e:(vs.any fun kv=>decide (kv.1=k))=true
 ·rw[if_pos e,if_pos e];exact r.repl k ry
 ·rw[if_neg e,if_neg e];exact Paired.snoc r ⟨rfl,ry⟩
theorem KV.keys{kvs:List (κ×V)}{vs:List (κ×Value)}(r:KV kvs vs):kvs.map (·.1)=vs.map (·.1):=by
 unfold KV at r
 induction r with
 |nil=>rfl
 |cons h t ih=>rw[map_cons,map_cons,ih,h.1]
theorem KV.length{kvs:List (κ×V)}{vs:List (κ×Value)}(r:KV kvs vs):kvs.length=vs.length:=Paired.length r
end
theorem Ju{P:Program}{w:World}{k:Key}{u:Value}(r:RelV (kV k) u):(yD P w).is k u=true:=by
 cases k with
 |inl i=>obtain⟨t,e⟩:=(show ∃t,u=Value.int i t from r);subst e;exact Vp P w i t
 |inr x=>obtain⟨t,e⟩:=(show ∃t,u=Value.str x t from r);subst e;exact Vo P w x t
theorem X3{P:Program}{w:World}:∀{ks:List Key} {us:List Value},Vals (ks.map kV) us→ItemsAre (yD P w) ks us
 |[],_,r=>by rw[map_nil] at r;cases r;exact .nil
 |k::ks,_,r=>by
  rw[map_cons] at r
  cases r with
  |cons h t=>exact .cons (Ju h) (X3 t)
noncomputable abbrev KT(H:Hp):List (List Key×V)→List (List Key×Addr×Value)→Prop:=Paired fun p q=>p.1=q.1∧H q.2.1=some (.tup (p.1.map kV))∧RelV p.2 q.2.2
theorem KT.val{H:Hp}{kvs:List (List Key×V)}{xs:List (List Key×Addr×Value)}(r:KT H kvs xs)(k:List Key):RelO (ja kvs k) ((atKey xs k).map (·.2)):=by
 induction r with
 |nil=>exact True.intro
 | @cons p q ps qs h t ih=>
  obtain⟨h1,_,h2⟩:=h
  by_cases e:p.1=k
  ·have e':q.1=k:=h1.symm.trans e
   have b:atKey (q::qs) k=some q.2:=by simp[atKey,find?_cons,e']
   rw[uu e,b];exact h2
  ·have e':¬ q.1=k:=fun z=>e (h1.trans z)
   have b:atKey (q::qs) k=atKey qs k:=by simp[atKey,find?_cons,e']
   rw[uv e,b];exact ih
theorem KT.repl{H:Hp}{kvs:List (List Key×V)}{xs:List (List Key×Addr×Value)}(r:KT H kvs xs)(k:List Key){y:V}{u:Value}(ry:RelV y u) :
  KT H (kvs.map fun kv=>if kv.1=k then (kv.1,y) else kv) (xs.map (putAt k u)):=by
 induction r with
 |nil=>exact .nil
 | @cons p q ps qs h t ih=>
  rw[map_cons,map_cons]
  refine .cons ?_ ih
  obtain⟨h1,h2,h3⟩:=h
  unfold putAt
  by_cases e:p.1=k
  ·rw[if_pos e,if_pos (h1.symm.trans e)];exact⟨h1,h2,ry⟩
  ·rw[if_neg e,if_neg (fun z=>e (h1.trans z))];exact⟨h1,h2,h3⟩
theorem KT.put{H:Hp}{kvs:List (List Key×V)}{xs:List (List Key×Addr×Value)}(r:KT H kvs xs)(k:List Key){b:Addr}{y:V}{u:Value}(hb:H b=some (.tup (k.map kV)))(ry:RelV y u) :
  KT H (Zi kvs k y) (storedH xs k b u):=by
 have e:(kvs.any fun kv=>decide (kv.1=k))=(atKey xs k).isSome:=by
  rw[WS,(r.val k).isSome_eq,Option.isSome_map]
 unfold Zi storedH
 rw[e]
 by_cases q:(atKey xs k).isSome=true
 ·rw[if_pos q,if_pos q];exact r.repl k ry
 ·rw[if_neg q,if_neg q];exact Paired.snoc r ⟨rfl,hb,ry⟩
theorem KT.keeps{H H':Hp}{kvs:List (List Key×V)}{xs:List (List Key×Addr×Value)}(r:KT H kvs xs)(ht:∀b ys,H b=some (.tup ys)→H' b=some (.tup ys)):KT H' kvs xs:=
 Paired.mapP r fun _ _ z=>⟨z.1,ht _ _ z.2.1,z.2.2⟩
section
variable{P:Program}{w:World}{H:Hp}{h:Heap}{a:Addr}
theorem LQ{u:HO}(ok:HOk P w H h)(e:Rd H a u):ObjOk P w H h a u:=e.ok ok
theorem VR{kvs:List (Key×V)}(ok:HOk P w H h)(e:Rd H a (.dK kvs)):kvs.length≤sizeLine∧(a==sysModules)=false∧∃vs,KV kvs vs∧h.DictOf (yD P w) a vs:=
 show ObjOk P w H h a (.dK kvs) from LQ ok e
theorem JI{kvs:List (Key×V)}(ok:HOk P w H h)(e:H a=some (.dK kvs)):kvs.length≤sizeLine∧(a==sysModules)=false∧∃vs,KV kvs vs∧h.DictOf (yD P w) a vs:=VR ok (.inl e)
theorem WE{ks:List Key}(ok:HOk P w H h)(e:H a=some (.tup (ks.map kV))):(tupleKind (yD P w)).is h ks a:=by
 obtain⟨_,its,r,o,h1,h2,n,h3⟩:=(show ObjOk P w H h a (.tup (ks.map kV)) from ok a _ e)
 exact⟨o,its.toArray,n,h1,h2,h3,by simpa using X3 r⟩
theorem VP{kvs:List (List Key×V)}(ok:HOk P w H h)(e:Rd H a (.dT kvs)):kvs.length≤sizeLine∧(a==sysModules)=false ∧
  ∃xs,KT H kvs xs∧h.DictOfH (tupleKind (yD P w)) a xs:=by
 obtain⟨z,y,xs,r,o,es,ep,h1,h2,h3,h4,h5⟩:=(show ObjOk P w H h a (.dT kvs) from LQ ok e)
 refine⟨z,y,xs,r,o,es,ep,h1,h2,h3,h4,fun x hx=>?_,h5⟩
 have all:∀{l:List (List Key×V)} {m:List (List Key×Addr×Value)},KT H l m→∀x∈m,(tupleKind (yD P w)).is h x.1 x.2.1:=by
  intro l m q
  induction q with
  |nil=>intro x hx;exact nomatch hx
  | @cons p q ps qs hq t ih=>
   intro x hx
   rcases mem_cons.mp hx with e|hx
   ·subst e
    exact WE ok (by rw[← hq.1];exact hq.2.1)
   ·exact ih x hx
 exact all r x hx
theorem dt_of{kvs:List (List Key×V)}(ok:HOk P w H h)(e:H a=some (.dT kvs)):kvs.length≤sizeLine∧(a==sysModules)=false ∧
  ∃xs,KT H kvs xs∧h.DictOfH (tupleKind (yD P w)) a xs:=VP ok (.inl e)
end
noncomputable def DGet(H:Hp)(a:Addr)(y:V)(r:Option V):Prop:=
 (∃kvs k,Rd H a (.dK kvs)∧y=kV k∧r=ja kvs k)∨∃kvs k b,Rd H a (.dT kvs)∧y=.ref b∧H b=some (.tup (k.map kV))∧r=ja kvs k
noncomputable def DPut(H:Hp)(a:Addr)(y v:V)(H':Hp):Prop:=
 (∃kvs k,H a=some (.dK kvs)∧y=kV k∧kvs.length<sizeLine∧H'=upd H a (.dK (Zi kvs k v))) ∨
 ∃kvs k b,H a=some (.dT kvs)∧y=.ref b∧H b=some (.tup (k.map kV))∧kvs.length<sizeLine∧H'=upd H a (.dT (Zi kvs k v))
theorem DGet.k{H:Hp}{a:Addr}{kvs:List (Key×V)}{k:Key}(e:H a=some (.dK kvs)):DGet H a (kV k) (ja kvs k):=.inl ⟨kvs,k,.inl e,rfl,rfl⟩
theorem DPut.k{H:Hp}{a:Addr}{kvs:List (Key×V)}{k:Key}{v:V}(e:H a=some (.dK kvs))(hl:kvs.length<sizeLine):DPut H a (kV k) v (upd H a (.dK (Zi kvs k v))):=.inl ⟨kvs,k,e,rfl,hl,rfl⟩
section
variable{X:Cx}{pins:List (Addr×Obj)}{σ:St}{H:Hp}{s:Shared}{a:Addr}{y v:V}{u r:Value}{o:Option V}{A:Around}{E:Value→Shared→Prop}
theorem Inv.big(I:Inv X pins σ H s):sysModules<s.heap.objs.size:=by
 have h:mainGlobals<s.heap.objs.size:=(I.mod.glob.keeps I.bk).lt
 exact Nat.lt_trans (by decide) h
theorem QC{Q:Value→Shared→Prop}(hu:A.units+1<cLine)(I:Inv X pins σ H s)(g:DGet H a y (some v))(ry:RelV y u)(h:∀w' s',Inv X pins σ H s'→RelV v w'→Q w' s') :
  wpAny (model X.prog X.w) A (getItem (.ref a) u) Q E s:=by
 rcases g with ⟨kvs,k,e,ey,l⟩|⟨kvs,k,b,e,ey,eb,l⟩
 ·subst ey
  obtain⟨z,hd,vs,rel,dd⟩:=VR I.hok e
  obtain⟨w',hw,rw'⟩:=RelO.some_of (v:=v) (o:=valueAt vs k) (by rw[l];exact rel.val k)
  exact wpAny_getItem_of (Ju ry) dd.mapOf hw (h w' _ (I.tok _) rw')
 ·subst ey
  cases (show u=Value.ref b from ry)
  obtain⟨z,hd,xs,rel,dd⟩:=VP I.hok e
  obtain⟨w',hw,rw'⟩:=RelO.some_of (v:=v) (o:=(atKey xs k).map (·.2)) (by rw[l];exact rel.val k)
  obtain⟨p,hp,hp2⟩:=Option.map_eq_some_iff.mp hw
  refine wpAny_getItem_heap (tupleKind_room_in1 hu) (WE I.hok eb) dd hp ?_
  rw[hp2]
  exact h w' _ (I.tok _) rw'
theorem JL{h':Heap}{t':Nat}{ob:HO}(I:Inv X pins σ H s)(mu:Mut (H a))(hs:Heap.SameBut a s.heap h')(he:∃q,h'.get? a=some q)(new:ObjOk X.prog X.w (upd H a ob) h' a ob) :
  Inv X pins σ (upd H a ob) { s with heap:=h',toks:=t' }:=
 I.write (x:=a) (e:=a) mu (.inl rfl) (fun b q hb z=>(hs.2 b hb).trans z) he new
theorem zh6{P:Program}{w:World}{H':Hp}{h':Heap}{kvs:List (Key×V)}{vs:List (Key×Value)}(z:kvs.length≤sizeLine)(hd:(a==sysModules)=false)(rel:KV kvs vs)(dd:h'.DictOf (yD P w) a vs) :
  ObjOk P w H' h' a (.dK kvs):=⟨z,hd,vs,rel,dd⟩
theorem QB{H':Hp}{Q:Unit→Shared→Prop}(hu:A.units+1<cLine)(I:Inv X pins σ H s)(g:DPut H a y v H')(ry:RelV y u)(rv:RelV v r)(h:∀s',Inv X pins σ H' s'→Q () s') :
  wpAny (model X.prog X.w) A (setItem (.ref a) u r) Q E s:=by
 rcases g with ⟨kvs,k,e,ey,l,eH⟩|⟨kvs,k,b,e,ey,eb,l,eH⟩
 ·subst ey eH
  obtain⟨z,hd,vs,rel,dd⟩:=JI I.hok e
  have hz:vs.length≤sizeLine:=by rw[← rel.length];exact z
  have hl:(Zi kvs k v).length≤sizeLine:=by have:=ZH kvs k v;lia
  refine wpAny_setItem_pairs (hsz:=hz) (Ju ry) dd fun h' dd' hs=>h _ ?_
  have he:∃q,h'.get? a=some q:=let ⟨q,_,_,hq,_⟩:=dd';⟨q,hq⟩
  exact JL I (by rw[e];exact True.intro) hs he (zh6 hl hd (rel.put k rv) dd')
 ·subst ey eH
  cases (show u=Value.ref b from ry)
  obtain⟨z,hd,xs,rel,dd⟩:=dt_of I.hok e
  have hz:xs.length≤sizeLine:=by rw[← Paired.length rel];exact z
  have hl:(Zi kvs k v).length≤sizeLine:=by have:=ZH kvs k v;lia
  refine wpAny_setItem_heap (hsz:=hz) (tupleKind_room_in1 hu) (WE I.hok eb) dd fun h' dd' hs=>h _ ?_
  obtain⟨q,es,ep,hq,h2,h3,h4,_,h5⟩:=dd'
  refine JL I (by rw[e];exact True.intro) hs ⟨q,hq⟩ ⟨hl,hd,_,(rel.put k eb rv).keeps fun c ys ec=>?_,q,es,ep,hq,h2,h3,h4,h5⟩
  rw[zi (ne_of ec e (fun z=>nomatch z))]
  exact ec
end
section
variable{X:Cx}{pins:List (Addr×Obj)}{σ:St}{H:Hp}{s:Shared}{a:Addr}{kvs:List (Key×V)}{k:Key}{u:Value}{A:Around}{E:Value→Shared→Prop}
end
noncomputable def zj1(i:Expr):Prop:=∀ov iv,subscripted i false ov iv=operate [ov,iv] (getItem ov iv)
theorem MZ{prog:Program}{w:World}{A:Around}{E:Value→Shared→Prop}{s:Shared}{env:Env}{value slice:Expr}{pos:Pos}{T id:String}{Q:Value→Shared→Prop}
  (hl:typeLookup (.type T) "__getitem__" = pure (some (.builtin id))) (hs:zj1 slice)
  (h:wpAny (model prog w) A (eval value env) (fun o s₁=>wpAny (model prog w) A (eval slice env) (fun i s₂=>s₂.TypeIs o T∧wpAny (model prog w) A (getItem o i) Q E s₂) E s₁) E s) :
  wpAny (model prog w) A (eval (.Subscript value slice pos) env) Q E s:=by
 refine Subscript_ (wpAny_mono h (fun o s₁ h₁=>wpAny_mono h₁ (fun i s₂ h₂=>?_) fun _ _ x=>x) fun _ _ x=>x)
 obtain⟨hT,h₂⟩:=h₂
 unfold subscriptTail
 refine wpAny_bind ?_
 rw[getitemInPython_of_ne hT.not_modules]
 refine wpAny_bind (wpAny_specialOf hT hl ?_)
 have fin:wpAny (model prog w) A (subscripted slice false o i) (fun r s₃=>wpAny (model prog w) A (letTemporaryGo value o r >>= fun _=>pure r) Q E s₃) E s₂:=by
  rw[hs o i]
  exact wpAny_operating (wpAny_mono h₂ (fun r s₃ h₃=>wpAny_bind (wpAny_letTemporaryGo (wpAny_pure h₃))) fun _ _ x=>x)
 first
  | exact wpAny_pure (wpAny_bind fin)
  | exact wpAny_bind (wpAny_pure (wpAny_bind fin))
  | exact wpAny_bind fin
theorem VS{X:Cx}{pins:List (Addr×Obj)}{σ:St}{H:Hp}{s:Shared}{a:Addr}{y:V}{o:Option V}(I:Inv X pins σ H s)(g:DGet H a y o):s.TypeIs (.ref a) "dict" := by
 rcases g with ⟨kvs,k,e,_,_⟩|⟨kvs,k,b,e,_,_,_⟩
 ·obtain⟨_,_,vs,_,dd⟩:=VR I.hok e
  exact dd.typeIs
 ·obtain⟨_,_,xs,_,dd⟩:=VP I.hok e
  exact dd.typeIs
noncomputable def tDGet(td ty:TE):TE:=fun σ H Q=>td σ H fun x H1=>ty σ H1 fun y H2=>∃a v,x=.ref a∧DGet H2 a y (some v)∧Q v H2
noncomputable def sDPut(td ty tv:TE):TS:=fun D σ H=>tv σ H fun v H1=>td σ H1 fun x H2=>ty σ H2 fun y H3=>∃a H4,x=.ref a∧DPut H3 a y v H4∧D.nx σ H4
section
variable{X:Cx}{o i e value:Expr}{pos pos' tpos:Pos}{td ty tv:TE}
theorem Tx(hu:X.A.units+1<cLine)(ho:PE X o td)(hi:PE X i ty)(hs:zj1 i):PE X (.Subscript o i pos) (tDGet td ty):=by
 intro pins s σ H Q I h
 refine MZ PySem.F.slot_dict_getitem.lookup hs (thn (ho pins s σ H _ I h) fun u s1 ⟨x,H1,I1,rx,q1⟩=>thn (hi pins s1 σ H1 _ I1 q1) fun iv s2 z_=>?_)
 obtain⟨y,H2,I2,ry,a,v,ex,g,q2⟩:=z_
 subst ex
 obtain rfl:u=Value.ref a:=rx
 exact⟨VS I2 g,QC hu I2 g ry fun w' s3 I3 rw'=>⟨v,H2,I3,rw',q2⟩⟩
theorem Tq(hu:X.A.units+1<cLine)(ho:PE X o td)(hi:PE X i ty)(hv:PE X value tv)(hs:swapsWith value (some (.Subscript o i pos')) pos.line X.env=pure false) :
  PS X (.Assign [.Subscript o i pos'] value pos) (sDPut td ty tv):=by
 intro pins s σ H D I h
 refine wpAny_Assign_Subscript (thn (hv pins s σ H _ I h) fun r s1 ⟨v,H1,I1,rv,q1⟩=>thn (ho pins s1 σ H1 _ I1 q1) fun u s2 ⟨x,H2,I2,rx,q2⟩=>thn (hi pins s2 σ H2 _ I2 q2) fun iv s3 z_=>?_) hs
 obtain⟨y,H3,I3,ry,a,H4,ex,g,q3⟩:=z_
 subst ex
 obtain rfl:u=Value.ref a:=rx
 exact QB hu I3 g ry rv fun s4 I4=>⟨σ,H4,I4,q3⟩
end
theorem MD{P:Program}{w:World}{H:Hp}(h:Heap)(hb:sysModules<h.objs.size):ObjOk P w H (h.push { cls:=.type "dict", data:=.dict #[] }) h.objs.size (.dK []):=
 ⟨zero_le _,beq_eq_false_iff_ne.mpr (Ne.symm (ne_of_lt hb)),[],.nil,Heap.DictOf.new h⟩
noncomputable def za5:TE:=fun _ H Q=>∀p,H p=none→Q (.ref p) (upd H p (.dK []))
section
variable{X:Cx}{pos:Pos}
theorem Vd:PE X (.Dict [] [] pos) za5:=fun pins s σ H Q I h=>
 wpAny_Dict_empty ⟨.ref s.heap.objs.size,_,I.laid (a:=s.heap.objs.size) (o:=.dK []) (t':=s.toks) (fun _ _ q=>get?_push_of_some _ q) (le_refl _) (MD s.heap I.big),rfl,h _ (I.hok.fresh (le_refl _))⟩
end
structure M2(X:Cx)(o:Expr)(m:Str)(apos:Pos)(e f:Expr)(cpos:Pos):Prop where
 base:attributeBase o m X.env (eval o X.env)=eval o X.env
 few:((backTo cpos (starEach [e,f] X.env)).all (fun x=>!x.1)&&(backToKw cpos (keywordEach [] X.env)).all (fun x=>x.1.isSome)
  && decide (([e,f]:List Expr).length+([]:List Keyword).length+(if ([]:List Keyword).isEmpty then 0 else 1)<30))=true
 line:(apos.endLine==cpos.line)=true
 trees:backTo cpos (starEach [e,f] X.env)=[(false,eval e X.env),(false,eval f X.env)]
noncomputable def IsD(H:Hp)(a:Addr):Prop:=(∃kvs,Rd H a (.dK kvs))∨∃kvs,Rd H a (.dT kvs)
theorem Mf{X:Cx}{pins:List (Addr×Obj)}{σ:St}{H:Hp}{s:Shared}{a:Addr}(I:Inv X pins σ H s)(d:IsD H a) :
  s.TypeIs (.ref a) "dict" ∧ (∀b,Value.ref a=.ref b→∃ob,s.heap.get? b=some ob∧ob.dict=none)∧(a==sysModules)=false:=by
 rcases d with ⟨kvs,e⟩|⟨kvs,e⟩
 ·obtain⟨_,hd,vs,_,dd⟩:=VR I.hok e
  refine⟨dd.typeIs,fun b q=>?_,hd⟩
  cases q
  obtain⟨ob,_,_,h1,h2,_⟩:=dd
  exact⟨ob,h1,h2.2.1⟩
 ·obtain⟨_,hd,xs,_,dd⟩:=VP I.hok e
  refine⟨dd.typeIs,fun b q=>?_,hd⟩
  cases q
  obtain⟨ob,_,_,h1,h2,_⟩:=dd
  exact⟨ob,h1,h2.2.1⟩
section
variable{X:Cx}{pins:List (Addr×Obj)}{σ:St}{H:Hp}{s:Shared}{a:Addr}{y d:V}{u r:Value}{o:Option V}{A:Around}{E:Value→Shared→Prop}
theorem zh8{Q:Value→Shared→Prop}(hu:A.units+1<cLine)(I:Inv X pins σ H s)(g:DGet H a y o)(ry:RelV y u)(rd:RelV d r)(h:∀w' s',Inv X pins σ H s'→RelV (o.getD d) w'→Q w' s') :
  wpAny (model X.prog X.w) A (call (.builtin "dict.get") [.ref a,u,r]) Q E s:=by
 rcases g with ⟨kvs,k,e,ey,l⟩|⟨kvs,k,b,e,ey,eb,l⟩
 ·subst ey
  obtain⟨z,hd,vs,rel,dd⟩:=VR I.hok e
  refine call_meetsIn PySem.F.slot_dict_get dd.typeIs PySem.F.entry_dict_get (PySem.F.args_dict_get_3 _ _ _) (meets_dict_get_default (yD X.prog X.w) a (Ju ry) hd r) ⟨_,dd.mapOf,h _ _ (I.tok _) ?_⟩
  rw[l]
  exact(rel.val k).getD rd
 ·subst ey
  cases (show u=Value.ref b from ry)
  obtain⟨z,hd,xs,rel,dd⟩:=VP I.hok e
  refine call_meetsIn PySem.F.slot_dict_get dd.typeIs PySem.F.entry_dict_get (PySem.F.args_dict_get_3 _ _ _) (meetsH_dict_get_default (tupleKind (yD X.prog X.w)) a b hd r) ⟨tupleKind_room_in1 hu,k,xs,WE I.hok eb,dd,h _ _ (I.tok _) ?_⟩
  rw[l]
  exact(rel.val k).getD rd
end
noncomputable def za6(td ty tx:TE):TE:=fun σ H Q=>td σ H fun x H1=>∃a,x=.ref a∧IsD H1 a∧ty σ H1 fun y H2=>tx σ H2 fun z H3=>∃o,DGet H3 a y o∧Q (o.getD z) H3
section
variable{X:Cx}{o e f:Expr}{apos cpos:Pos}{td ty tx:TE}
theorem Ve(hu:X.A.units+1<cLine)(ho:PE X o td)(he:PE X e ty)(hf:PE X f tx)(m:M2 X o "get" apos e f cpos):PE X (.Call (.Attribute o "get" apos) [e,f] [] cpos) (za6 td ty tx):=by
 intro pins s σ H Q I h
 refine wpAny_Call_method m.base m.few m.line PySem.F.plainAttrs_dict PySem.F.slot_dict_get PySem.F.type_dict_get (thn (ho pins s σ H _ I h) fun u s1 z_=>?_)
 obtain⟨x,H1,I1,rx,a,ex,d,q1⟩:=z_
 subst ex
 obtain rfl:u=Value.ref a:=rx
 obtain⟨t1,t2,_⟩:=Mf I1 d
 refine⟨t1,t2,?_⟩
 rw[m.trees]
 refine Calls.callWith_builtin rfl (Calls.evalArgs_plain (Calls.spliced_cons (thn (he pins s1 σ H1 _ I1 q1) fun iv s2 ⟨y,H2,I2,ry,q2⟩=>
  Calls.spliced_cons (thn (hf pins s2 σ H2 _ I2 q2) fun fv s3 ⟨z,H3,I3,rz,ov,g,q3⟩=>Calls.spliced_nil ?_))))
 exact zh8 hu I3 g ry rz fun w' s4 I4 rw'=>⟨_,H3,I4,rw',q3⟩
end
section
variable{X:Cx}{pins:List (Addr×Obj)}{σ:St}{H:Hp}{s:Shared}{a:Addr}{kvs:List (Key×V)}{A:Around}{E:Value→Shared→Prop}
end
section
variable{X:Cx}{pins:List (Addr×Obj)}{σ:St}{H:Hp}{s:Shared}{a:Addr}{y:V}{u:Value}{A:Around}{E:Value→Shared→Prop}
end
section
variable{κ:Type}[DecidableEq κ]
end
end L2
set_option Elab.async false
set_option linter.all false
set_option maxRecDepth 100000
namespace STW
open PySem PyProof.Rows
section
variable{prog:Program}{w:World}{K:Type}[DecidableEq K]{knd:KeyKind prog w K}{A:Around}{E:Value→Shared→Prop}{s:Shared}{d:Addr}{kvs:List (K×Value)}{ep:Nat}
end
section
variable{prog:Program}{w:World}{K:Type}[DecidableEq K]{knd:KeyKind prog w K}{A:Around}{E:Value→Shared→Prop}{s:Shared}{d:Addr}{kvs:List (K×Value)}{ep:Nat}{ns:List Int}{b:Bool}
end
end STW
set_option Elab.async false
set_option linter.all false
set_option maxRecDepth 100000
namespace FD
open PySem PySem.Spec PyProof.Rows L2
variable[Tabs]
section
variable{X:Cx}{pos pp kp p1 p2:Pos}{kk:Nat}
end
noncomputable def Vl(τ:DS):Prop:=∀(i:Nat) (s:Sl),τ[i]?=some (some s)→∃d,s=.val d
omit [Tabs] in
theorem Vl.noObj{τ:DS}(v:Vl τ):noObj τ:=fun i s h=>by
 cases s with
 |none=>rfl
 |some s=>obtain⟨d,rfl⟩:=v i s h;rfl
omit [Tabs] in
theorem Vl.set{τ:DS}(v:Vl τ)(i:Nat)(d:D):Vl (τ.set i (some (.val d))):=fun j s h=>by
 rw[getElem?_set] at h
 split at h
 ·split at h
  ·cases h;exact⟨d,rfl⟩
  ·cases h
 ·exact v j s h
noncomputable def Soft(o:Option HO):Prop:=o=none∨(∃vs,o=some (.lst vs))∨∃ks,o=some (.dK ks)
theorem RS.free{K:Frag}{B Z F H:Hp}{τ:DS}{σ:St}{p:Addr}{o:HO}(R:RS K B Z F τ σ H)(v:Vl τ)(hb:B p=none)(hp:F p=none)(hl:Soft (H p))(ho:∀a,o≠.own a:=by intro _ h;cases h):RS K B Z F τ σ (upd H p o):=by
 have ne:∀{a:Addr} {w:HO},H a=some w→(∀vs,w≠.lst vs)→(∀ks,w≠.dK ks)→a≠p:=fun {a w} h n1 n2 z=>by
  subst z
  rcases hl with z|⟨ws,z⟩|⟨ws,z⟩
  ·rw[z] at h;cases h
  ·rw[z] at h;cases h;exact n1 _ rfl
  ·rw[z] at h;cases h;exact n2 _ rfl
 have own:∀(i:Nat) ds,τ[i]?≠some (some (.own ds)):=fun i ds h=>by obtain⟨d,e⟩:=v i _ h;cases e
 have obj:∀(i n:Nat) c fs,τ[i]?≠some (some (.obj n c fs)):=fun i n c fs h=>by obtain⟨d,e⟩:=v i _ h;cases e
 have obr:∀(i:Nat) c fs,τ[i]?≠some (some (.obr c fs)):=fun i c fs h=>by obtain⟨d,e⟩:=v i _ h;cases e
 refine⟨⟨fun b u e=>?_,R.rv.len,R.rv.val,fun i ds h=>absurd h (own i ds),fun i j ds es a _ h=>absurd h (own i ds),⟨fun r hr=>?_,fun d a h=>?_⟩,ObsOk.none v.noObj⟩,fun a u e=>?_,R.zf,R.nb,fun i ds a h=>absurd h (own i ds),fun i n c fs a h=>absurd h (obj i n c fs),fun a0 dx _ _ i n c fs h=>absurd h (obj i _ c fs),fun i c fs a h=>absurd h (obr i c fs)⟩
 ·have:b≠p:=fun z=>by subst z;rw[hp] at e;cases e
  rw[zi this];exact R.rv.fh b u e
 ·obtain⟨t1,t2⟩:=R.rv.tt.1 r hr
  refine⟨t1,?_⟩
  rcases t2 with e|⟨c,e,e2⟩
  ·exact .inl (by rw[zi (ne e (fun _ z=>nomatch z) (fun _ z=>nomatch z))];exact e)
  ·exact .inr ⟨c,by rw[zi (ne e (fun _ z=>nomatch z) (fun _ z=>nomatch z))];exact e,by rw[zi (ne e2 (fun _ z=>nomatch z) (fun _ z=>nomatch z))];exact e2⟩
 ·by_cases z:d=p
  ·subst z;rw[zn] at h;cases h;exact absurd rfl (ho a)
  ·rw[zi z] at h
   obtain⟨C,dx,vs,e⟩:=R.rv.tt.2 d a h
   exact⟨C,dx,vs,by rw[zi (ne e (fun _ z=>nomatch z) (fun _ z=>nomatch z))];exact e⟩
 ·have:a≠p:=fun z=>by subst z;rw[hb] at e;cases e
  rw[zi this];exact R.bh a u e
theorem Mw{F H F' H':Hp}{a:Addr}{o:HO}(x:Ext F H F' H')(h:H a=some o)(f:F a=none):F' a=none:=by
 cases q:F' a with
 |none=>rfl
 |some u=>
  rcases x.nw a u q with z|z
  ·rw[f] at z;cases z
  ·rw[h] at z;cases z
section
variable{X:Cx}{i:Nat}{y:Str}{e0 e0' e0'' e1:Expr}{f0 f1:FE}{q1 q2 q3 cp sp sp2 lp ap ip atp callp xp:Pos}
theorem GF{X:Cx}{α:Type}{r:Rs α}{a:α}{P:α→Prop}(h:r=.ok a)(p:P a):Ok X r P:=by rw[h];exact p
theorem GO{B H:Hp}{p:Addr}(h:Hh B H)(e:H p=none):B p=none:=by
 cases q:B p with
 |none=>rfl
 |some o=>exact absurd e (Kp.some (h p o q))
theorem GN{F H:Hp}{p:Addr}(h:Same F H)(e:H p=none):F p=none:=by
 cases q:F p with
 |none=>rfl
 |some o=>have:=h p o q;rw[e] at this;cases this
end
section
variable{X:Cx}{i r:Nat}{x y:Str}{e0 e0' e0'' e1 iter:Expr}{fi:FA}{q1 q2 q3 cp sp sp2 lp ap ip atp callp xp tp pos:Pos}
end
noncomputable def vlB(τ:DS):Bool:=τ.all fun s=>match s with
 |none=>true
 | some (.val _)=>true
 |_=>false
omit [Tabs] in
theorem QL{τ:DS}(h:vlB τ=true):Vl τ:=fun i s e=>by
 have:=all_eq_true.mp h (some s) (mem_of_getElem? e)
 cases s with
 |val d=>exact⟨d,rfl⟩
 |_=>cases this
theorem RS.drop{K:Frag}{B Z F H:Hp}{τ:DS}{σ:St}{i:Nat}{v:Option V}(R:RS K B Z F τ σ H)(vl:Vl τ):RS K B Z F (τ.set i none) (σ.set i v) H∧Vl (τ.set i none):=by
 have get:∀(j:Nat) (s:Sl),(τ.set i none)[j]?=some (some s)→i≠j∧τ[j]?=some (some s):=fun j s h=>by
  by_cases z:i=j
  ·subst z
   rw[getElem?_set] at h
   simp only[if_true] at h
   split at h <;> cases h
  ·rw[getElem?_set_ne z] at h;exact⟨z,h⟩
 have vl':Vl (τ.set i none):=fun j s h=>vl j s (get j s h).2
 have own:∀(j:Nat) ds,(τ.set i none)[j]?≠some (some (.own ds)):=fun j ds h=>by obtain⟨d,e⟩:=vl' j _ h;cases e
 have obj:∀(j n:Nat) c fs,(τ.set i none)[j]?≠some (some (.obj n c fs)):=fun j n c fs h=>by obtain⟨d,e⟩:=vl' j _ h;cases e
 have obr:∀(j:Nat) c fs,(τ.set i none)[j]?≠some (some (.obr c fs)):=fun j c fs h=>by obtain⟨d,e⟩:=vl' j _ h;cases e
 refine⟨⟨⟨R.rv.fh,by rw[length_set,length_set];exact R.rv.len,fun j d h=>?_,fun j ds h=>absurd h (own j ds),fun j k ds es a _ h=>absurd h (own j ds),R.rv.tt,ObsOk.none vl'.noObj⟩,R.bh,R.zf,R.nb,fun j ds a h=>absurd h (own j ds),fun j n c fs a h=>absurd h (obj j n c fs),fun a0 dx _ _ j n c fs h=>absurd h (obj j _ c fs),fun j c fs a h=>absurd h (obr j c fs)⟩,vl'⟩
 obtain⟨ne,e⟩:=get j _ h
 obtain⟨w,h1,h2⟩:=R.rv.val j d e
 exact⟨w,by rw[getElem?_set_ne ne];exact h1,h2⟩
section
variable{X:Cx}{i r:Nat}{x y c:Str}{iter elt:Expr}{fi:FA}{body:List Stmt}{scope:Scope}{yp tp dp a1 fp rp cpos cp sp p1 p2 kp:Pos}{kk:Nat}
end
end FD
set_option Elab.async false
set_option linter.all false
set_option maxRecDepth 100000
namespace STW
open PySem PyProof.Rows
section
variable{prog:Program}{w:World}{K:Type}[DecidableEq K]{knd:PySem.KeyKind prog w K}{A:Around}{E:Value→Shared→Prop}{s:Shared}{d:Addr}{kvs:List (K×Value)}{ep:Nat}{ss:List Str}
end
end STW
set_option Elab.async false
set_option linter.all false
set_option maxRecDepth 100000
namespace FD
open PySem PySem.Spec PyProof.Rows L2
variable[Tabs]
section
variable{X:Cx}
end
noncomputable abbrev FG2:=DS→List Str→Option (DS×List Str)
section
variable{X:Cx}{i r:Nat}{x y:Str}{e0 iter:Expr}{fk:FE}{fi:FA}{f:FG2}{q1 sp bp ap tp pos:Pos}{kk:Nat}{body:List Stmt}
end
section
variable{X:Cx}{i r:Nat}{x y sx:Str}{iter:Expr}{f:FG2}{st:Stmt}{yp dp a1 rp p1 pos pp:Pos}
end
end FD
set_option Elab.async false
set_option linter.all false
set_option maxRecDepth 100000
namespace STW
open PySem PyProof.Rows
section
variable{prog:Program}{w:World}{A:Around}{R:Result→Shared→Prop}{I:Addr}{fp wr:List Addr}{G:Array GenState→Array GenState→Prop}{n:Nat}{P:Nat→Value→Prop}{St:Nat→Shared→Prop}{L:Bool}
end
section
variable{prog:Program}{w:World}{A:Around}{E:Value→Shared→Prop}{s:Shared}
end
section
variable{prog:Program}{w:World}{A:Around}{E:Value→Shared→Prop}{s:Shared}{a:Addr}{ns:List Str}{n:Nat}
end
end STW
set_option Elab.async false
set_option linter.all false
set_option maxRecDepth 100000
namespace FD
open PySem PySem.Spec PyProof.Rows L2
variable[Tabs]
section
variable{X:Cx}{e:Expr}{pos:Pos}{fs:FA}
end
end FD
set_option Elab.async false
set_option linter.all false
set_option maxRecDepth 100000
namespace STW
open PySem PyProof.Rows
section
variable{prog:Program}{w:World}{K:Type}[DecidableEq K]{knd:KeyKind prog w K}{A:Around}{E:Value→Shared→Prop}{s:Shared}{d:Addr}{kvs:List (K×Value)}{ep:Nat}
end
end STW
set_option Elab.async false
set_option linter.all false
set_option maxRecDepth 100000
namespace FD
open PySem PySem.Spec PyProof.Rows L2
theorem Lk{X:Cx}{pins:List (Addr×Obj)}{σ:St}{H:Hp}{s:Shared}{d:Addr}{kvs:List (Key×V)}{o:Obj}(I:Inv X pins σ H s)(e:H d=some (.dK kvs))(ho:s.heap.get? d=some o):Inv X pins σ (upd H d (.frz o (.dK kvs))) s:=by
 have ne:∀{b:Addr} {u:HO},H b=some u→(∀ks,u≠.dK ks)→b≠d:=fun {b u} h n z=>by subst z;rw[e] at h;cases h;exact n _ rfl
 refine I.un (t':=s.toks) ⟨fun b u q _ _ _=>q,fun b u q _ _ _=>⟨u.slots,q⟩,fun b u _ n _=>?_,fun b u q _=>⟨u,q⟩,fun b xs q=>?_,fun b u w q=>?_,fun b ps q=>?_⟩ fun b u q=>?_
 ·rw[zi (fun z=>by subst z;rw[e] at n;cases n)];exact n
 ·rw[zi (ne q fun _ z=>nomatch z)];exact q
 ·rw[zi (ne q fun _ z=>nomatch z)];exact q
 ·exact⟨#[],by rw[zi (ne q fun _ z=>nomatch z)];simpa using q⟩
 ·by_cases hb:b=d
  ·subst hb;rw[zn] at q;cases q
   have z:=I.hok b _ e
   exact⟨ho,z⟩
  ·rw[zi hb] at q
   exact(I.hok b u q).stay (fun c v _ q=>q) (fun c q=>by rw[zi (ne q fun _ z=>nomatch z)];exact q) fun c xs q=>by rw[zi (ne q fun _ z=>nomatch z)];exact q
theorem zc8{X:Cx}{e:Expr}{t:TE}(h:PE X e t):PE X e (fun σ H Q=>t σ H fun v H1=>∃d kvs,v=.ref d∧H1 d=some (.dK kvs)∧∀o,Q v (upd H1 d (.frz o (.dK kvs)))):=fun pins s σ H Q I q=>by
 refine thn (h pins s σ H _ I q) fun u s1 z_=>?_
 obtain⟨v,H1,I1,r1,d,kvs,e1,e2,q2⟩:=z_
 obtain⟨_,_,vs,_,o,es,ep,ho,_⟩:=JI I1.hok e2
 exact⟨v,_,Lk I1 e2 ho,r1,q2 o⟩
theorem U0{P:Program}{w:World}{k:Key}{u:Value}(h:(yD P w).is k u=true):RelV (kV k) u:=by
 cases k with
 |inl n=>exact Value.isInt_shape h
 |inr x=>exact Value.isStrOf_shape h
noncomputable def Itk(a:Addr)(o:Obj)(kvs:List (Key×V)):It:=
 ⟨fun i H=>H a=some (.frz o (.dK kvs))∧i<kvs.length,fun i H x H'=>H'=H∧∃p,kvs[i]?=some p∧x=kV p.1,fun i H=>H a=some (.frz o (.dK kvs))∧kvs.length≤i⟩
theorem Uw{P:Program}{w:World}{H:Hp}{h:Heap}{a:Addr}{o:Obj}{kvs:List (Key×V)}{es:Array DictEntry}{ep:Nat}(hok:HOk P w H h)(e:H a=some (.frz o (.dK kvs)))(hd:o.data=.dict es ep) :
  kvs.length≤sizeLine∧(a==sysModules)=false∧∃vs,KV kvs vs∧h.DictAt (yD P w) a vs ep:=by
 obtain⟨h1,z,hs,vs,r,o',es',ep',h2,h3,h4,h5⟩:=(show ObjOk P w H h a (.frz o (.dK kvs)) from hok a _ e)
 rw[h1] at h2;cases h2
 rw[hd] at h4;cases h4
 exact⟨z,hs,vs,r,o,es,h1,h3,hd,h5⟩
theorem zh3{P:Program}{w:World}{H:Hp}{h:Heap}{a:Addr}{o:Obj}{kvs:List (Key×V)}(hok:HOk P w H h)(e:H a=some (.frz o (.dK kvs))):∃es ep,o.data=.dict es ep:=by
 obtain⟨h1,z,hs,vs,r,o',es',ep',h2,h3,h4,h5⟩:=(show ObjOk P w H h a (.frz o (.dK kvs)) from hok a _ e)
 rw[h1] at h2;cases h2
 exact⟨es',ep',h4⟩
theorem QR{P:Program}{w:World}{K:Frag}{tg:Expr}(a it:Addr)(o:Obj)(kvs:List (Key×V))(es:Array DictEntry)(ep:Nat)(hd:o.data=.dict es ep):Xt P w K tg (Itk a o kvs) [it] it (fun i h=>h.IsKeyIter it a i kvs.length ep) where
 mem:=by simp
 obj:=fun i h st b hb=>by
  have e:b=it:=by simpa using hb
  subst e
  obtain⟨o,e,c,d⟩:=st
  exact⟨o,e,fun v z=>by rw[d] at z;cases z⟩
 keep:=fun i h h' st k=>st.at fun o e=>k it (by simp) o e
 item:=by
  intro X hP hw hK hc i pins s σ H E I hf st hg
  subst hP hw hK
  obtain⟨hq,hx⟩:=hg
  obtain⟨z,hs,vs,rel,da⟩:=Uw I.hok hq hd
  have hl:=rel.length
  obtain⟨p,hp⟩:∃p,kvs[i]?=some p:=⟨kvs[i],by simp[hx]⟩
  obtain⟨⟨k,x⟩,hv⟩:∃p,vs[i]?=some p:=⟨vs[i]'(by lia),by simp⟩
  have hk:p.1=k:=by
   have:=rel.keys
   have e1:(kvs.map (·.1))[i]?=some p.1:=by rw[getElem?_map,hp];rfl
   rw[this,getElem?_map,hv] at e1
   exact(Option.some.inj e1).symm
  obtain⟨f0,f1,f2,f3,f4,f5⟩:=hf it (by simp)
  refine wpAny_pyNext_dict_item (by rw[← hl];exact st) da hv fun key h' hkey st' sb=>?_
  have I1:Inv X pins σ H { s with heap:=h' }:=I.turned (t':=s.toks) (fun b o hb e=>(sb.2 b hb).trans e) f0 f1 f3 f4 f5
  obtain⟨o',e',c',d'⟩:=id st'
  exact⟨key,rfl,X8 (s:={ s with heap:=h' }) e' c' d' (by decide) ⟨kV k,H,I1,U0 hkey,⟨rfl,p,hp,by rw[hk]⟩,by rw[hl];exact st',fun b hb=>(hf b hb).1⟩⟩
 done:=by
  intro X hP hw hK hc i pins s σ H E I hf st hg
  subst hP hw hK
  obtain⟨hq,hx⟩:=hg
  obtain⟨z,hs,vs,rel,da⟩:=Uw I.hok hq hd
  have hl:=rel.length
  obtain⟨f0,f1,f2,f3,f4,f5⟩:=hf it (by simp)
  exact wpAny_pyNext_dict_end (I.ok.hd hc) (by rw[← hl];exact st) da (by simp;lia) fun h' eb=>⟨rfl,I.turned (t':=s.toks) (fun b o hb e=>eb b o hb e) f0 f1 f3 f4 f5⟩
 self:=fun _ _ _ _ _ st h=>wpAny_pyIter_keyiter st h
theorem zb9{X:Cx}{tg l:Expr}{tl:TE}(hl:PE X l tl):PI X tg l (fun σ H R=>tl σ H fun x H1=>∃a o kvs,x=.ref a∧H1 a=some (.frz o (.dK kvs))∧R (Itk a o kvs) H1):=by
 intro pins s σ H R I h
 refine thn (hl pins s σ H _ I h) fun v s1 z_=>?_
 obtain⟨x,H1,I1,r1,a,o,kvs,e,hq,q⟩:=z_
 subst e
 cases r1
 obtain⟨es,ep,hd⟩:=zh3 I1.hok hq
 obtain⟨z,hs,vs,rel,da⟩:=Uw I1.hok hq hd
 refine wpAny_pyIter_dict hs da ?_
 refine⟨s1.heap.objs.size,[s1.heap.objs.size],_,_,H1,rfl,I1.kept (t':=s1.toks) fun b o e=>get?_push_of_some _ e,QR a _ o kvs es ep hd,⟨_,Heap.get?_push_size _ rfl,rfl,by rw[rel.length];rfl⟩,fun b hb=>?_,q⟩
 have e:b=s1.heap.objs.size:=by simpa using hb
 subst e
 exact I1.fpOk (le_refl _) (I1.hok.fresh (le_refl _))
noncomputable def UA:Key→D
 |.inl i=>.int i
 |.inr x=>.str x
noncomputable def YN:D→Option Key
 |.int i=>some (.inl i)
 |.str x=>some (.inr x)
 |_=>none
theorem Th{K:Frag}{F:Hp}(k:Key):Rep K F (UA k) (kV k):=by
 cases k with
 |inl i=>show Rep K F (.int i) (.int i);simp only[Rep]
 |inr x=>show Rep K F (.str x) (.str x);simp only[Rep]
theorem Jt{K:Frag}{F:Hp}{d:D}{k:Key}{v:V}(h:YN d=some k)(r:Rep K F d v):v=kV k:=by
 cases d <;> first|cases h|skip
 all_goals (simp only[Rep] at r;subst r;rfl)
noncomputable def jB:List Key→List D→Key→Option D
 |k'::ks,d::ds,k=>if k'=k then some d else jB ks ds k
 |_,_,_=>none
theorem VI{K:Frag}{F:Hp}(k:Key):∀{kvs:List (Key×V)} {ks:List Key} {ds:List D},kvs.map (·.1)=ks→Reps K F ds (kvs.map (·.2)) →
  (∀d,jB ks ds k=some d→∃v,ja kvs k=some v∧Rep K F d v)∧(jB ks ds k=none→ja kvs k=none):=fun {kvs}=>by
 induction kvs with
 |nil=>
  intro ks ds h r
  subst h
  refine⟨fun d h=>?_,fun _=>rfl⟩
  rw[map_nil] at h
  unfold jB at h
  cases h
 |cons p kvs ih=>
  intro ks ds h r
  subst h
  cases ds with
  |nil=>have:=r.length;simp at this
  |cons d ds=>
   simp only[map_cons,Reps] at r
   obtain⟨v,r',e,q,t⟩:=r
   cases e
   obtain⟨i1,i2⟩:=ih rfl t
   rw[map_cons]
   unfold jB
   by_cases z:p.1=k
   ·rw[if_pos z]
    exact⟨fun d' h=>by cases h;exact⟨p.2,uu z,q⟩,fun h=>by cases h⟩
   ·rw[if_neg z,uv z]
    exact⟨i1,i2⟩
variable[Tabs]
section
variable{X:Cx}{pos apos cpos:Pos}{e o f tg:Expr}{fe fo ff:FE}
theorem zg7{K:Frag}{a:Addr}{ob:Obj}{F1:Hp}{kvs:List (Key×V)}(h:F1 a=some (.frz ob (.dK kvs))):VW K (Itk a ob kvs) F1 ((kvs.map (·.1)).map UA):=fun i F H f1 f2=>by
 have q:=f2 _ _ (f1 _ _ h)
 refine⟨fun hl=>⟨q,by simpa using hl⟩,fun d hd=>?_⟩
 have hi:i<kvs.length:=by have:=(List.getElem?_eq_some_iff.mp hd).1;simpa using this
 refine⟨⟨q,hi⟩,fun x H' y=>?_⟩
 obtain⟨e1,p,hp,rfl⟩:=y
 subst e1
 refine⟨F,Ext.refl f2,?_⟩
 rw[getElem?_map,getElem?_map,hp] at hd
 cases hd
 exact Th p.1
noncomputable def YS(fe:FE):FA:=fun τ=>(fe τ).bind fun d=>match d with
 |.dct ks _=>.ok (ks.map UA)
 |_=>.no
theorem Jb(he:PDE X e fe):PDI X tg e (YS fe):=
 PI.imp (zb9 he) fun σ H R z_=>by
  obtain⟨F,τ,Rv,h⟩:=z_
  refine tE.of Rv h.bind fun d v F1 H1 g x R1 r=>?_
  cases d with
  |dct ks ds=>
   simp only[Rep] at r;obtain⟨a,kvs,ob,rfl,q,rfl,t⟩:=r
   exact⟨a,ob,kvs,rfl,R1.fh _ _ q,g _ F1 H1 x (zg7 q)⟩
  |_=>exact g.elim
noncomputable def jD(fo fe ff:FE):FE:=fun τ=>(fo τ).bind fun d=>match d with
 |.dct ks ds=>(fe τ).bind fun k=>(ff τ).bind fun z=>match YN k with
  |some k=>.ok ((jB ks ds k).getD z)
  |none=>.no
 |_=>.no
theorem Zm(hu:X.A.units+1<cLine)(ho:PDE X o fo)(he:PDE X e fe)(hf:PDE X f ff)(m:M2 X o "get" apos e f cpos):PDE X (.Call (.Attribute o "get" apos) [e,f] [] cpos) (jD fo fe ff):=
 PE.imp (Ve hu ho he hf m) fun σ H Q z_=>by
  obtain⟨F,τ,R,h⟩:=z_
  refine tE.of R h.bind fun d v F1 H1 g x R1 r=>?_
  cases d with
  |dct ks ds=>
   simp only[Rep] at r;obtain⟨a,kvs,ob,rfl,q,kk,t⟩:=r
   refine⟨a,rfl,.inl ⟨kvs,.inr ⟨ob,R1.fh _ _ q⟩⟩,?_⟩
   refine tE.of R1 g.bind fun dk vk F2 H2 g2 x2 R2 r2=>?_
   refine tE.of R2 g2.bind fun dz vz F3 H3 g3 x3 R3 r3=>?_
   cases hk:YN dk with
   |none=>rw[hk] at g3;exact g3.elim
   |some k=>
    rw[hk] at g3;dsimp only at g3
    have ek:=Jt hk r2
    subst ek
    have q3:=x3.ff _ _ (x2.ff _ _ q)
    have gt:DGet H3 a (kV k) (ja kvs k):=.inl ⟨kvs,k,.inr ⟨ob,R3.fh _ _ q3⟩,rfl,rfl⟩
    obtain⟨i1,i2⟩:=VI k kk (t.mono (x2.ff.trans x3.ff))
    refine⟨_,gt,?_⟩
    cases hg:jB ks ds k with
    |none=>
     rw[hg] at g3
     rw[i2 hg]
     exact g3 vz F3 H3 ((x.trans x2).trans x3) r3
    |some dv=>
     rw[hg] at g3
     obtain⟨w,e1,e2⟩:=i1 dv hg
     rw[e1]
     exact g3 w F3 H3 ((x.trans x2).trans x3) e2
  |_=>exact g.elim
noncomputable def MB(fo fe:FE):FE:=fun τ=>(fo τ).bind fun d=>match d with
 |.dct ks ds=>(fe τ).bind fun k=>match YN k with
  |some k=>(match jB ks ds k with
   |some v=>.ok v
   |none=>.no)
  |none=>.no
 |_=>.no
theorem TM(hu:X.A.units+1<cLine)(ho:PDE X o fo)(he:PDE X e fe)(hs:zj1 e:=by intro _ _;rfl):PDE X (.Subscript o e pos) (MB fo fe):=
 PE.imp (Tx hu ho he hs) fun σ H Q z_=>by
  obtain⟨F,τ,R,h⟩:=z_
  refine tE.of R h.bind fun d v F1 H1 g x R1 r=>?_
  cases d with
  |dct ks ds=>
   simp only[Rep] at r;obtain⟨a,kvs,ob,rfl,q,kk,t⟩:=r
   refine tE.of R1 g.bind fun dk vk F2 H2 g2 x2 R2 r2=>?_
   cases hk:YN dk with
   |none=>rw[hk] at g2;exact g2.elim
   |some k=>
    rw[hk] at g2;dsimp only at g2
    have ek:=Jt hk r2
    subst ek
    have q3:=x2.ff _ _ q
    obtain⟨i1,i2⟩:=VI k kk (t.mono x2.ff)
    cases hg:jB ks ds k with
    |none=>rw[hg] at g2;exact g2.elim
    |some dv=>
     rw[hg] at g2
     obtain⟨w,e1,e2⟩:=i1 dv hg
     have gt:DGet H2 a (kV k) (some w):=.inl ⟨kvs,k,.inr ⟨ob,R2.fh _ _ q3⟩,rfl,e1.symm⟩
     exact⟨a,w,rfl,gt,g2 w F2 H2 (x.trans x2) e2⟩
  |_=>exact g.elim
end
noncomputable abbrev SI:=List (Str×Int)
noncomputable def kvI(ks:SI):List (Key×V):=ks.map fun p=>(Sum.inr p.1,V.int p.2)
noncomputable def xK(ks:SI)(k:Str):Option Int:=(ks.find? fun p=>decide (p.1=k)).map (·.2)
noncomputable def jP(ks:SI)(k:Str)(v:Int):SI:=if ks.any (fun p=>decide (p.1=k))=true then ks.map fun p=>if p.1=k then (p.1,v) else p else ks++[(k,v)]
omit [Tabs] in
theorem any_I(ks:SI)(k:Str):((kvI ks).any fun kv=>decide (kv.1=Sum.inr k))=ks.any fun p=>decide (p.1=k):=by
 unfold kvI
 induction ks with
 |nil=>rfl
 |cons a ks ih=>rw[map_cons,any_cons,any_cons,ih];simp
omit [Tabs] in
theorem put_I(ks:SI)(k:Str)(v:Int):Zi (kvI ks) (Sum.inr k) (V.int v)=kvI (jP ks k v):=by
 unfold Zi jP
 rw[any_I]
 by_cases h:ks.any (fun p=>decide (p.1=k))=true
 ·rw[if_pos h,if_pos h]
  unfold kvI
  rw[map_map,map_map]
  refine map_congr_left fun a _=>?_
  simp only[Function.comp]
  by_cases z:a.1=k
  ·rw[if_pos (by rw[z]),if_pos z]
  ·rw[if_neg (fun y=>z (by cases y;rfl)),if_neg z]
 ·rw[if_neg h,if_neg h]
  unfold kvI
  rw[map_append];rfl
omit [Tabs] in
theorem val_I(ks:SI)(k:Str):ja (kvI ks) (Sum.inr k)=(xK ks k).map V.int:=by
 unfold xK
 induction ks with
 |nil=>rfl
 |cons a ks ih=>
  show ja ((Sum.inr a.1,V.int a.2)::kvI ks) _=_
  by_cases z:a.1=k
  ·rw[uu (by rw[z]),find?_cons];simp[z]
  ·rw[uv (fun y=>z (by cases y;rfl)),ih,find?_cons];simp[z]
omit [Tabs] in
theorem Ym(ks:SI)(k:Str)(v:Int):(jP ks k v).length≤ks.length+1:=by
 unfold jP
 split <;> simp
structure Di(B F H:Hp)(σ:St)(i:Nat)(ks:SI)(d:Addr):Prop where
 sl:σ[i]?=some (some (.ref d))
 db:B d=none
 df:F d=none
 dh:H d=some (.dK (kvI ks))
theorem Di.ext{B F H F' H':Hp}{σ:St}{i:Nat}{ks:SI}{d:Addr}(D:Di B F H σ i ks d)(x:Ext F H F' H'):Di B F' H' σ i ks d:=
 ⟨D.sl,D.db,Mw x D.dh D.df,x.hh _ _ D.dh⟩
theorem Di.set{B F H:Hp}{σ:St}{i k:Nat}{ks:SI}{d:Addr}{v:Option V}(D:Di B F H σ i ks d)(h:k≠i):Di B F H (σ.set k v) i ks d:=
 { D with sl:=by rw[getElem?_set_ne h];exact D.sl }
noncomputable abbrev FG3:=DS→SI→Option (DS×SI)
noncomputable def tGi(X:Cx)(i:Nat)(f:FG3):TS:=fun E σ H=>∃B Z F τ ks d τ' ks',RS X.K B Z F τ σ H∧Vl τ∧Di B F H σ i ks d∧f τ ks=some (τ',ks') ∧
 ∀σ' F' H',Same F F'→RS X.K B Z F' τ' σ' H'→Vl τ'→Di B F' H' σ' i ks' d→E.nx σ' H'
noncomputable def je(fk:FE):FG3:=fun τ ks=>match fk τ with
 | .ok (.str k)=>if ks.length≤1000000 then some (τ,jP ks k ((xK ks k).getD 0+1)) else none
 |_=>none
omit [Tabs] in
theorem Qx{fk:FE}{τ τ':DS}{ks ks':SI}(h:je fk τ ks=some (τ',ks')):∃k,fk τ=.ok (.str k)∧ks.length≤1000000∧τ'=τ∧ks'=jP ks k ((xK ks k).getD 0+1):=by
 unfold je at h
 split at h
 ·rename_i k e
  split at h
  ·rename_i z
   cases h
   exact⟨k,e,z,rfl,rfl⟩
  ·cases h
 ·cases h
noncomputable def wN(f:FG3)(r:Nat):List D→FG3
 |[],τ,ks=>some (τ,ks)
 |d::ds,τ,ks=>(f (τ.set r (some (.val d))) ks).bind fun p=>wN f r ds p.1 p.2
noncomputable def YU(fi:FA)(r:Nat)(f:FG3):FG3:=fun τ ks=>match fi τ with
 |.ok ds=>wN f r ds τ ks
 |_=>none
section
variable{X:Cx}{i r:Nat}{x y:Str}{e0 e0' ev iter:Expr}{fk fv:FE}{fi:FA}{f:FG3}{q1 q2 sp bp ap tp pos gp gc c0 c1 cp ip:Pos}{k0 k1:Nat}{body:List Stmt}
theorem U3(hu:X.A.units+1<cLine)(hd:PE X (.Name y q1) (wX i))(hd2:PE X (.Name y q2) (wX i))(hk:PDE X e0 fk)(hk':PDE X e0' fk)(m:M2 X (.Name y q2) "get" gp e0' (.Constant (.int 0) k0 c0) gc)
  (hsw:swapsWith (.BinOp (.Call (.Attribute (.Name y q2) "get" gp) [e0',.Constant (.int 0) k0 c0] [] gc) .Add (.Constant (.int 1) k1 c1) bp) (some (.Subscript (.Name y q1) e0 sp)) ap.line X.env=pure false:=by rfl) :
  PS X (.Assign [.Subscript (.Name y q1) e0 sp] (.BinOp (.Call (.Attribute (.Name y q2) "get" gp) [e0',.Constant (.int 0) k0 c0] [] gc) .Add (.Constant (.int 1) k1 c1) bp) ap) (tGi X i (je fk)):=
 PS.imp (Tq hu hd hk (LS op_add (Ve hu hd2 hk' Ud m) Ud) hsw) fun E σ H h=>by
  obtain⟨B,Z,F,τ,ks,d,τ',ks',R,vl,D,hf,q⟩:=h
  obtain⟨k,z1,z2,z3,z4⟩:=Qx hf
  subst z3;subst z4
  refine⟨_,D.sl,d,rfl,.inl ⟨_,.inl D.dh⟩,?_⟩
  refine tE.at R (GF z1 rfl) fun dd w F1 H1 g x R1 r=>?_
  subst g
  simp only[Rep] at r;subst r
  have D1:=D.ext x
  refine⟨_,DGet.k (k:=Sum.inr k) D1.dh,(xK ks k).getD 0,1,?_,rfl,?_⟩
  ·rw[val_I]
   cases xK ks k <;> rfl
  ·refine⟨_,D1.sl,?_⟩
   refine tE.at R1 (GF z1 rfl) fun dd w F2 H2 g x2 R2 r=>?_
   subst g
   simp only[Rep] at r;subst r
   have D2:=D1.ext x2
   have pt:=DPut.k (k:=Sum.inr k) (v:=.int ((xK ks k).getD 0+1)) D2.dh (by rw[sizeLine_eq];unfold kvI;rw[length_map];lia)
   rw[put_I] at pt
   exact⟨d,_,rfl,pt,q σ F2 _ (x.ff.trans x2.ff) (RS.free (o:=.dK (kvI (jP ks k ((xK ks k).getD 0+1)))) R2 vl D2.db D2.df (.inr (.inr ⟨_,D2.dh⟩))) vl ⟨D2.sl,D2.db,D2.df,zn⟩⟩
theorem U4(hp:PassesOwn (model X.prog X.w) X.A X.env X.xe)(hc:X.calm=true)(hi:PDI X (.Name x tp) iter fi)(hN:X.N.Nodup)(hx:X.N[r]?=some x)(hlc:Loc X.env.scope x)(hri:r≠i)
  (hb:PSs X body (tGi X i f)) (hf:X.fn x=true∨X.env.scope.names.lookup x=some .local:=by first|exact .inl rfl|exact .inr rfl|assumption) (hs:∀x,foldedSetIterable iter X.env x=pure x:=by intro _;rfl) :
  PS X (.For (.Name x tp) iter body [] pos) (tGi X i (YU fi r f)):=
 PS.imp (Uc hp hc hi (jQ hN hx hlc hf) hb hs) fun E σ H h=>by
  obtain⟨B,Z,F,τ,ks,d,τe,kse,R,vl,D,hf,q⟩:=h
  unfold YU at hf
  cases hfi:fi τ with
  |no=>rw[hfi] at hf;cases hf
  |ex c=>rw[hfi] at hf;cases hf
  |ok ds=>
   rw[hfi] at hf
   dsimp only at hf
   refine⟨F,τ,R.rv,GF hfi fun J F1 H1 x1 io=>?_⟩
   refine⟨fun n m σ H=>m=ds.length-n∧n≤ds.length∧∃F' τ' ks',Same F1 F'∧RS X.K B Z F' τ' σ H∧Vl τ'∧Di B F' H σ i ks' d∧wN f r (ds.drop n) τ' ks'=some (τe,kse),⟨ds.length,by simp,zero_le _,F1,τ,ks,Same.refl _,R.ext x1,vl,D.ext x1,hf⟩,?_⟩
   rintro n m σ2 H2 ⟨rfl,hn,F2,τ2,k2,f2,R2,v2,D2,g2⟩
   obtain⟨i1,i2⟩:=io n F2 H2 f2 R2.rv.fh
   by_cases hlt:n<ds.length
   ·have hd:ds.drop n=ds[n]::ds.drop (n+1):=drop_eq_getElem_cons hlt
    rw[hd] at g2
    obtain⟨go,yl⟩:=i2 ds[n] (by simp[hlt])
    refine .inr ⟨go,fun σ' H'=>∃F' τ' ks',Same F2 F'∧RS X.K B Z F' τ' σ' H'∧Vl τ'∧Di B F' H' σ' i ks' d∧wN f r (ds.drop (n+1)) τ' ks'=some (τe,kse),fun σ' H' ⟨F',τ',ks',a,b,c,t,e⟩=>⟨ds.length-(n+1),by lia,rfl,hlt,F',τ',ks',f2.trans a,b,c,t,e⟩,fun w H' yy=>?_⟩
    obtain⟨F3,x3,r3⟩:=yl w H' yy
    have R3:=(R2.ext x3).set (i:=r) r3
    have D3:=(D2.ext x3).set (v:=some w) (k:=r) hri
    unfold wN at g2
    cases z:f (τ2.set r (some (.val ds[n]))) k2 with
    |none=>rw[z] at g2;cases g2
    |some p=>
     obtain⟨τ3,k3⟩:=p
     rw[z] at g2
     exact⟨B,Z,F3,_,k2,d,τ3,k3,R3,v2.set r _,D3,z,fun σ' F' H'' ff RR vv DD=>⟨F',τ3,k3,x3.ff.trans ff,RR,vv,DD,g2⟩⟩
   ·have e:n=ds.length:=by lia
    subst e
    rw[drop_length] at g2
    cases g2
    exact .inl ⟨i1 (by simp),q σ2 F2 H2 (x1.ff.trans f2) R2 v2 D2⟩
end
theorem RS.outD{K:Frag}{B Z F H:Hp}{τ:DS}{σ:St}{d:Addr}{o:Obj}{kvs:List (Key×V)}(R:RS K B Z F τ σ H)(hb:B d=none)(hf:F d=none)(hh:H d=some (.dK kvs)):Ext Z B (upd F d (.frz o (.dK kvs))) (upd H d (.frz o (.dK kvs))):=by
 have ne:∀{b:Addr} {u:HO},H b=some u→(∀ks,u≠.dK ks)→b≠d:=fun {b u} h n z=>by subst z;rw[hh] at h;cases h;exact n _ rfl
 refine⟨fun b u q=>?_,fun b u q=>?_,fun b u q=>?_,fun b u q=>?_,fun _=>⟨fun r hr=>?_,fun x a h=>?_⟩⟩
 ·have q1:=R.zf b u q
  rw[zi (fun z=>by subst z;rw[hf] at q1;cases q1)];exact q1
 ·rw[zi (fun z=>by subst z;rw[hb] at q;cases q)];exact R.bh b u q
 ·by_cases z:b=d
  ·subst z;rw[zn] at q ⊢;exact q
  ·rw[zi z] at q ⊢;exact R.rv.fh b u q
 ·by_cases z:b=d
  ·subst z;exact .inr hb
  ·rw[zi z] at q;exact R.nb b u q
 ·obtain⟨t1,t2⟩:=R.rv.tt.1 r hr
  have n:r.1≠d:=by
   rcases t2 with e|⟨c,e,e2⟩
   ·exact ne e fun _ z=>nomatch z
   ·exact ne e fun _ z=>nomatch z
  refine⟨by rw[zi n];exact t1,?_⟩
  rcases t2 with e|⟨c,e,e2⟩
  ·exact .inl (by rw[zi n];exact e)
  ·exact .inr ⟨c,by rw[zi n];exact e,by rw[zi (ne e2 fun _ z=>nomatch z)];exact e2⟩
 ·have z:x≠d:=fun z=>by subst z;rw[zn] at h;cases h
  rw[zi z] at h
  obtain⟨C,dx,vs,e⟩:=R.rv.tt.2 x a h
  exact⟨C,dx,vs,by rw[zi (ne e fun _ z=>nomatch z)];exact e⟩
noncomputable def yo(ks:SI):D:=.dct (ks.map fun p=>Sum.inr p.1) (ks.map fun p=>D.int p.2)
theorem Gb{K:Frag}{F:Hp}{d:Addr}{o:Obj}{ks:SI}(h:F d=some (.frz o (.dK (kvI ks)))):Rep K F (yo ks) (.ref d):=by
 unfold yo
 simp only[Rep]
 refine⟨d,kvI ks,o,rfl,h,?_,?_⟩
 ·unfold kvI;rw[map_map];rfl
 ·unfold kvI
  rw[map_map]
  have e1:(ks.map fun p=>D.int p.2)=(ks.map (·.2)).map D.int:=by rw[map_map];rfl
  have e2:(ks.map ((fun x:Key×V=>x.2) ∘ fun p:Str×Int=>((Sum.inr p.1:Key),V.int p.2)))=(ks.map (·.2)).map V.int:=by rw[map_map];rfl
  rw[e1,e2]
  exact Reps.ints _
noncomputable def M8(i:Nat)(f:FG3):FS:=fun τ=>if vlB τ=true∧i<τ.length then match f (τ.set i none) [] with
 |some p=>.rt (yo p.2)
 |none=>.no
 else .no
section
variable{X:Cx}{i:Nat}{y:Str}{f:FG3}{st:Stmt}{yp dp a1 rp p1:Pos}
theorem Go(hN:X.N.Nodup)(hy:X.N[i]?=some y)(hly:Loc X.env.scope y)(hb:PS X st (tGi X i f))(hpy:PE X (.Name y p1) (wX i))
  (hsw:swapsWith (.Dict [] [] dp) (some (.Name y yp)) a1.line X.env=pure false:=by rfl) (hfy:X.fn y=true∨X.env.scope.names.lookup y=some .local:=by first|exact .inl rfl|exact .inr rfl|assumption) :
  uk X [.Assign [.Name y yp] (.Dict [] [] dp) a1,st,.Return (some (.Name y p1)) rp] (M8 i f):=
 PSs.imp (uA (Yn (i:=i) hN hy hly Vd hsw hfy) (uA hb (uU (Yo (zc8 hpy))))) fun E σ H h=>by
  obtain⟨B,Z,F,τ,R,h⟩:=h
  unfold M8 at h
  by_cases z:vlB τ=true∧i<τ.length
  ·rw[if_pos z] at h
   obtain⟨z1,z3⟩:=z
   have vl:=QL z1
   intro p hp'
   have bp:B p=none:=GO R.bh hp'
   have fp':F p=none:=GN R.rv.fh hp'
   obtain⟨R1,v1⟩:=RS.drop (i:=i) (v:=some (.ref p)) (RS.free (o:=.dK []) R vl bp fp' (.inl hp')) vl
   cases q:f (τ.set i none) [] with
   |none=>rw[q] at h;exact h.elim
   |some pr=>
    obtain⟨τ',ks⟩:=pr
    rw[q] at h
    dsimp only at h
    refine⟨B,Z,F,τ.set i none,[],p,τ',ks,R1,v1,⟨?_,bp,fp',zn⟩,q,fun σ' F' H' ff R' v' D'=>?_⟩
    ·rw[getElem?_set_self (by rw[← R.rv.len];exact z3)]
    ·refine⟨_,D'.sl,p,_,rfl,D'.dh,fun o=>?_⟩
     exact h _ _ _ (R'.outD (o:=o) D'.db D'.df D'.dh) (Gb zn)
  ·rw[if_neg z] at h;exact h.elim
end
section
variable{X:Cx}{pos p1 p2:Pos}{k1 k2:Nat}{x:Str}{n:Int}
end
section
variable{prog:Program}{w:World}{A:Around}{R:Result→Shared→Prop}{E:Value→Shared→Prop}{I S:Addr}{fp wr:List Addr}{n:Nat}{P:Nat→Value→Prop}{St:Nat→Heap→Prop}{kw:List (Str×Value)}{Ph:Heap→Prop}
end
variable[Tabs]
section
variable{X:Cx}{pos pp kp:Pos}{e e2:Expr}{fe f2:FE}
end
section
open PySem.SeqAt
open PySem.AutoSeq1 (wpAny_loadPart')
open PySem.MeetsSeq PySem.MeetsSeq2 PySem.MeetsSeq3
end
section
variable{prog:Program}{w:World}{A:Around}{E:Value→Shared→Prop}{s:Shared}
end
variable[Tabs]
section
variable{X:Cx}
end
section
variable{X:Cx}
end
section
variable{X:Cx}
end
end FD
set_option Elab.async false
set_option linter.all false
set_option maxRecDepth 100000
namespace STW
open PySem PyProof.Rows
section
variable{prog:Program}{w:World}{K:Type}[DecidableEq K]{knd:KeyKind prog w K}{A:Around}{R:Result→Shared→Prop}{I d:Addr}{fp wr:List Addr}{n:Nat}{P:Nat→Value→Prop}{St:Nat→Heap→Prop}
end
section
variable{prog:Program}{w:World}{K:Type}[DecidableEq K]{knd:KeyKind prog w K}{A:Around}{E:Value→Shared→Prop}{s:Shared}
end
end STW
set_option Elab.async false
set_option linter.all false
set_option maxRecDepth 100000
namespace FD
open PySem PySem.Spec PyProof.Rows L2
variable[Tabs]
section
variable{X:Cx}
end
section
variable{X:Cx}{e:Expr}{pos:Pos}{fs:FA}
end
open PySem.W
section
variable{n:Nat}{κ:Nat→List Int}
end
section
variable{prog:Program}{w:World}{A:Around}{E:Value→Shared→Prop}{s:Shared}
end
variable[Tabs]
section
variable{X:Cx}{pins:List (Addr×Obj)}{σ:St}{F H:Hp}{τ:DS}{s:Shared}{Q:VK}{E:Value→Shared→Prop}
end
section
variable{P:Program}{w:World}{K:Frag}{mg:Str→Option Value}{base:Heap}
end
section
variable{X:Cx}{pos:Pos}{e a b:Expr}{es rest:List Expr}{fe fb:FE}{fs:FA}{c m x:Str}{i k n:Nat}{ps:List Str}{fo:FOb}
end
section
variable{X:Cx}{pins:List (Addr×Obj)}{σ:St}{H:Hp}{s:Shared}{a:Addr}{cls:Value}
end
section
variable{X:Cx}
noncomputable def QS(X:Cx)(st:Stmt)(t:TS):Prop:=∀(pins:List (Addr×Obj)) (s:Shared) (σ:St) (H:Hp) (D:Xx),0<s.toks→Inv X pins σ H s→t D σ H→wpAny (model X.prog X.w) X.A (exec st X.env) (SP X pins D) X.xe s
variable{e a b o:Expr}{rest:List Expr}{pos apos cpos:Pos}{t u:TS}{te ta tb:TE}{tA tB':TT}
end
section
variable{X:Cx}{e a b o c:Expr}{es rest:List Expr}{pos apos cpos:Pos}{fe fa fb:FE}{ga gb:FT}{f g:FS}{st:Stmt}{sts:List Stmt}
end
section
variable{X:Cx}{pos:Pos}{i j:Nat}{c f x y:Str}{C:Addr}{sts:List Stmt}{g:FS}
end
section
variable{P:Program}{w:World}{K:Frag}{mg:Str→Option Value}{base:Heap}
end
section
variable{X:Cx}{pos:Pos}{c x y:Str}{i j k:Nat}{ps:List Str}
end
section
variable{X:Cx}{pos p3:Pos}{e:Expr}{fe:FE}
end
noncomputable def uN(set:FG)(fo:FOb):List D→DS→Rs (List D×DS)
 |[],τ=>.ok ([],τ)
 |d::r,τ=>match set d τ with
  |.ok τ1=>match fo τ1 with
   | .ok (x,τ2)=>match uN set fo r τ2 with
    | .ok (xs,τ3)=>.ok (x::xs,τ3)
    |_=>.no
   |_=>.no
  |_=>.no
noncomputable def LX:Option (Option Sl)→Option Sl
 | some (some (.val d))=>some (.val d)
 |_=>none
noncomputable def Xd(k:Nat)(idx:List Nat)(p:Nat)(s:Sl)(τ:DS):DS:=(List.replicate k none++idx.map fun j=>LX τ[j]?).set p (some s)
noncomputable def XO(k:Nat)(idx:List Nat)(i p:Nat)(c:Str)(fi:FA)(set:FG)(fo:FOb):FOb:=fun τ=>(v7 τ i c).bind fun o=>(fi τ).bind fun ds=>
 match uN set fo ds (Xd k idx p (.obj 1 c o.2) τ) with
 | .ok (xs,τe)=>(match v7 τe p c with
  | .ok (m,fs')=>if m=1∧xs.length≤sizeLine then .ok (.lst xs,τ.set i (some (.obj o.1 c fs'))) else .no
  |_=>.no)
 |_=>.no
noncomputable def wV(τ:DS):Prop:=∀(i:Nat) c fs,τ[i]?≠some (some (.obr c fs))
theorem XS{τ:DS}{i:Nat}{s:Option Sl}(h:wV τ)(hs:∀c fs,s≠some (.obr c fs)):wV (τ.set i s):=fun j c fs e=>by
 by_cases hij:i=j
 ·subst hij
  rw[getElem?_set] at e
  simp only[if_true] at e
  split at e
  ·injection e with e;exact hs c fs e
  ·cases e
 ·rw[getElem?_set_ne hij] at e;exact h j c fs e
theorem GQ(i:Nat):∀d τ τ',gNm i d τ=.ok τ'→wV τ→wV τ':=fun d τ τ' h n=>by
 unfold gNm at h;cases h;exact XS n (fun _ _ h=>by cases h)
theorem Um{i:Nat}{c m:Str}{g:Fs→List D→Rs (D×Fs)}{fs:FA}:∀τ d τ',jg i c m g fs τ=.ok (d,τ')→wV τ→wV τ':=fun τ d τ' h n=>by
 unfold jg at h
 cases e:v7 τ i c with
 |ok p=>
  rw[e] at h
  simp only[Rs.bind] at h
  split at h
  ·cases e1:fs τ with
   |ok d1=>
    simp only[e1] at h
    split at h
    ·cases h;exact XS n (fun _ _ h=>by cases h)
    ·cases h
   |ex _=>simp only[e1] at h;cases h
   |no=>simp only[e1] at h;cases h
  ·cases h
 |ex _=>rw[e] at h;cases h
 |no=>rw[e] at h;cases h
theorem vL{k p q:Nat}{idx:List Nat}{s0 s:Sl}{τ:DS}(h:(Xd k idx p s0 τ)[q]?=some (some s)):(q=p∧s=s0)∨(q≠p∧∃d j,s=.val d∧k≤q∧idx[q-k]?=some j∧τ[j]?=some (some (.val d))):=by
 unfold Xd at h
 by_cases e:p=q
 ·subst e
  rw[getElem?_set] at h
  simp only[if_true] at h
  split at h
  ·cases h;exact .inl ⟨rfl,rfl⟩
  ·cases h
 ·rw[getElem?_set_ne e] at h
  refine .inr ⟨fun z=>e z.symm,?_⟩
  by_cases hi:q<k
  ·rw[getElem?_append_left (by simpa using hi),getElem?_replicate] at h
   simp[hi] at h
  ·rw[getElem?_append_right (by simpa using hi),getElem?_map] at h
   simp only[length_replicate] at h
   cases z:idx[q-k]? with
   |none=>rw[z] at h;cases h
   |some j=>
    rw[z] at h
    simp only[Option.map_some,Option.some.injEq] at h
    unfold LX at h
    split at h
    ·rename_i d hd;cases h;exact⟨d,j,rfl,by lia,rfl,hd⟩
    ·cases h
theorem W3{k q j:Nat}{idx:List Nat}{σ:St}{v:V}(hk:k≤q)(hj:idx[q-k]?=some j)(h:σ[j]?=some (some v)):(wv k idx σ)[q]?=some (some v):=by
 unfold wv
 rw[getElem?_append_right (by simpa using hk),getElem?_map]
 simp[hj,h]
theorem J3{K:Frag}{F H:Hp}{τ:DS}{σ:St}{k i p n:Nat}{idx:List Nat}{c:Str}{o:Fs}{a:Addr}(R:RV K F τ σ H)(hk:k≤p)(hp:idx[p-k]?=some i)(hi:τ[i]?=some (some (.obj n c o)))(ha:σ[i]?=some (some (.ref a))) :
  RS K (wj H c a) F F (Xd k idx p (.obj 1 c o) τ) (wv k idx σ) H:=by
 obtain⟨a',q1,ob⟩:=R.ob.at_ i n c o hi
 obtain rfl:a'=a:=by rw[ha] at q1;cases q1;rfl
 have sp:(wv k idx σ)[p]?=some (some (.ref a')):=W3 hk hp ha
 have only:∀{j:Nat} {s:Sl},VA (some s)=true→(Xd k idx p (.obj 1 c o) τ)[j]?=some (some s)→j=p∧s=.obj 1 c o:=fun {j s} hs h=>by
  rcases vL h with e|⟨_,d,j',e,_⟩
  ·exact e
  ·subst e;cases hs
 have onlyS:∀{j:Nat} {c':Str},ObS (Xd k idx p (.obj 1 c o) τ)[j]? c'→j=p:=fun {j c'} h=>by
  rcases h with ⟨n,fs,h⟩|⟨fs,h⟩
  ·exact(only rfl h).1
  ·exact(only rfl h).1
 have noown:∀{j:Nat} {es:List D},(Xd k idx p (.obj 1 c o) τ)[j]?=some (some (.own es))→False:=fun {j es} h=>by
  rcases vL h with ⟨_,e⟩|⟨_,d,j',e,_⟩ <;> cases e
 have noobr:∀{j:Nat} {c':Str} {fs:Fs},(Xd k idx p (.obj 1 c o) τ)[j]?=some (some (.obr c' fs))→False:=fun {j c' fs} h=>by
  rcases vL h with ⟨_,e⟩|⟨_,d,j',e,_⟩ <;> cases e
 refine⟨⟨R.fh,by simp[Xd,wv],fun j d h=>?_,fun j es h=>(noown h).elim,fun j l es es' b _ h1=>(noown h1).elim,R.tt,⟨fun j m c' fs h=>?_,fun j l m c1 c2 fs b hij g1 g2 _ _=>?_,fun j c' fs h=>(noobr h).elim,fun j l m c1 c2 fs b b' u hij g1 g2=>?_,fun j l c' ds b u _ g2=>(noown g2).elim⟩⟩,YT H c a',Same.refl F,fun b u e=>.inl e,fun j es b g1=>(noown g1).elim,fun j m c' fs b g1 g2=>?_,fun a0 dx b1 b2 j m c' fs g1=>?_,fun j c' fs b g1 g2=>(noobr g1).elim⟩
 ·rcases vL h with ⟨_,e⟩|⟨_,d',j',e,e1,e2,e3⟩
  ·cases e
  ·cases e
   obtain⟨v,v1,v2⟩:=R.val j' d e3
   exact⟨v,W3 e1 e2 v1,v2⟩
 ·obtain⟨rfl,e⟩:=only rfl h
  cases e
  exact⟨a',sp,ob⟩
 ·exact hij ((only rfl g1).1.trans (onlyS g2).symm)
 ·exact absurd ((only rfl g1).1.trans (onlyS g2).symm) hij
 ·obtain⟨rfl,e⟩:=only rfl g1
  cases e
  rw[sp] at g2;cases g2
  exact⟨Ya _ _ _,fun l hl=>JB hl⟩
 ·obtain⟨rfl,e⟩:=only rfl g1
  cases e
  obtain⟨C,dx',vs,q2⟩:=R.tt.2 dx a0 (jA b1)
  by_cases z:a0=a'
  ·rw[z];exact sp
  ·have:a0∉Lof H c a':=fun y=>by
    obtain⟨C2,dx2,vs2,o1,_,_,o4,_⟩:=ob
    rw[Lof.ins o1] at y
    obtain⟨_,ws,q⟩:=o4.own y
    rw[q2] at q;cases q
   rw[vR z this,q2] at b2;cases b2
theorem RS.acc{K:Frag}{B Z F H:Hp}{τ:DS}{σ:St}{p:Addr}{vs:List V}(R:RS K B Z F τ σ H)(nr:wV τ)(hz:Z p=none)(hp:(B p=none∧H p=none)∨∃ws,B p=some (.lst ws)):RS K (upd B p (.lst vs)) Z F τ σ (upd H p (.lst vs)):=by
 have hl:H p=none∨∃ws,H p=some (.lst ws):=by
  rcases hp with ⟨_,h⟩|⟨ws,h⟩
  ·exact .inl h
  ·exact .inr ⟨ws,R.bh p _ h⟩
 have hF:F p=none:=by
  rcases hp with ⟨_,h⟩|⟨ws,h⟩
  ·exact zH R.rv.fh h
  ·cases q:F p with
   |none=>rfl
   |some o=>
    rcases R.nb p o q with z|z
    ·rw[hz] at z;cases z
    ·rw[h] at z;cases z
 have ne:∀b,B b=none→H b≠none→b≠p:=fun b h1 h2 z=>by
  subst z
  rcases hp with ⟨_,h⟩|⟨ws,h⟩
  ·exact h2 h
  ·rw[h] at h1;cases h1
 have hn:∀(b:Addr),b≠p→B b=none→upd B p (.lst vs) b=none:=fun b h1 h2=>by rw[zi h1];exact h2
 have apart:∀(i:Nat) (c:Str) (a:Addr),ObS τ[i]? c→σ[i]?=some (some (.ref a))→p∉Lof H c a:=fun i c a h e hm=>by
  rcases h with ⟨m,fs,h⟩|⟨fs,h⟩
  ·obtain⟨a',z1,C,dx,ws,z2,_,_,z5,_⟩:=R.rv.ob.at_ i m c fs h
   obtain rfl:a'=a:=by rw[e] at z1;cases z1;rfl
   have:=(R.oo i m c fs a' h e).2 p hm
   rw[Lof.ins z2] at hm
   obtain⟨_,us,z6⟩:=z5.own hm
   exact ne p this (by rw[z6];simp) rfl
  ·exact nr i c fs h
 have kl:∀(i m:Nat) (c:Str) (fs:Fs) (a:Addr),τ[i]?=some (some (.obj m c fs))→σ[i]?=some (some (.ref a))→H a≠none∧a≠p:=fun i m c fs a h e=>by
  obtain⟨a',z1,C,dx,ws,z2,_,_,z5,_⟩:=R.rv.ob.at_ i m c fs h
  obtain rfl:a'=a:=by rw[e] at z1;cases z1;rfl
  refine⟨by rw[z2];simp,fun z=>?_⟩
  subst z
  rcases hl with y|⟨_,y⟩ <;> rw[z2] at y <;> cases y
 have fh:Same F (upd H p (.lst vs)):=fun b u e=>by
  have:b≠p:=fun z=>by subst z;rw[hF] at e;cases e
  rw[zi this];exact R.rv.fh b u e
 refine⟨⟨fh,R.rv.len,R.rv.val,fun i es h=>?_,R.rv.dis,R.rv.tt.step (fun _ _ e=>.inl e) (fun b o e n=>?_) (vG fun _ z=>nomatch z),R.rv.ob.updL hl apart⟩,fun b o e=>?_,R.zf,fun b o e=>?_,fun i ds a h1 h2=>?_,fun i m c fs a h1 h2=>?_,fun a0 dx b1 b2 i m c fs h1=>?_,fun i c fs a h=>absurd h (nr i c fs)⟩
 ·obtain⟨a,ws,z1,z2,z3,z4⟩:=R.rv.own i es h
  have:a≠p:=ne a (R.ob i es a h z1) (by rw[z2];simp)
  exact⟨a,ws,z1,by rw[zi this];exact z2,z3,z4⟩
 ·have:b≠p:=fun z=>by
   subst z
   rcases hl with y|⟨us,y⟩
   ·rw[y] at e;cases e
   ·rw[y] at e;cases e;exact n _ rfl
  rw[zi this];exact e
 ·by_cases z:b=p
  ·subst z;rw[zn] at e;cases e;exact .of zn
  ·rw[zi z] at e ⊢;exact R.bh b o e
 ·rcases R.nb b o e with y|y
  ·exact .inl y
  ·refine .inr (hn b (fun z=>?_) y)
   subst z;rw[hF] at e;cases e
 ·obtain⟨a',ws,z1,z2,z3,z4⟩:=R.rv.own i ds h1
  obtain rfl:a'=a:=by rw[h2] at z1;cases z1;rfl
  have hb:=R.ob i ds a' h1 h2
  exact hn a' (ne a' hb (by rw[z2];simp)) hb
 ·obtain⟨k1,k2⟩:=kl i m c fs a h1 h2
  obtain⟨o1,o2⟩:=R.oo i m c fs a h1 h2
  refine⟨hn a k2 o1,fun l hl'=>?_⟩
  have e:Lof (upd H p (.lst vs)) c a=Lof H c a:=by unfold Lof;rw[zi k2]
  rw[e] at hl'
  exact hn l (fun z=>apart i c a (.inl ⟨m,fs,h1⟩) h2 (z ▸ hl')) (o2 l hl')
 ·have n1:dx≠p:=fun z=>by subst z;rw[zn] at b1;cases b1
  rw[zi n1] at b1
  have n2:a0≠p:=fun z=>by subst z;rw[zn] at b2;cases b2
  rw[zi n2] at b2
  exact R.sf a0 dx b1 b2 i m c fs h1
theorem upd_upd(H:Hp)(p:Addr)(x y:HO):upd (upd H p x) p y=upd H p y:=by
 funext b;unfold upd;split <;> rfl
section
variable{X:Cx}{scope:Scope}{tn fr:List Str}{idx:List Nat}{tg iter elt:Expr}{pos:Pos}{fi:FA}{set:FG}{fo:FOb}{i p:Nat}{c:Str}
structure CWE(K:Frag)(set:FG)(fo:FOb)(c:Str)(a acc:Addr)(F1 H1:Hp)(ds xs:List D)(τe:DS)(j:Nat)(σ1:St)(Hc F2:Hp)(τ1:DS)(dn rs:List D)(vs:List V):Prop where
 a1:Reps K F2 dn vs
 a2:RS K (upd (wj H1 c a) acc (.lst vs)) F1 F2 τ1 σ1 Hc
 a3:wV τ1
 a4:uN set fo (ds.drop j) τ1=.ok (rs,τe)
 a5:xs=dn++rs
theorem UC(hk:tn.length≤p)(hp:idx[p-tn.length]?=some i)(ns:∀d τ τ',set d τ=.ok τ'→wV τ→wV τ')(no:∀τ d τ',fo τ=.ok (d,τ')→wV τ→wV τ'){Y:Cx}(hK:Y.K=X.K)(σ:St)(H:Hp)(Q:VK)(h:tOb X (XO tn.length idx i p c fi set fo) σ H Q) :
  UN (wv tn.length idx) (tI X fi) (tG Y set) (tTs Y fun _=>.ok true) (tOb Y fo) σ H Q:=by
 obtain⟨B,Z,F,τ,R,h⟩:=h
 obtain⟨t,o,h1,h5⟩:=Z6 (X:=X) (Ok.bind h)
 dsimp only at h5
 refine⟨F,τ,R.rv,h5.bind.imp fun ds gds J F1 H1 x io acc hacc=>?_⟩
 have R1:=R.ext x
 obtain⟨a,q1,ob⟩:=R1.rv.ob.at_ i t c o h1
 have obn:=ob
 obtain⟨C,dx,ws,o1,o2,o3,o4,o5,o6⟩:=ob
 cases q:uN set fo ds (Xd tn.length idx p (.obj 1 c o) τ) with
 |no=>rw[q] at gds;exact gds.elim
 |ex c=>rw[q] at gds;exact gds.elim
 |ok xt=>
  obtain⟨xs,τe⟩:=xt
  rw[q] at gds
  dsimp only at gds
  cases qo:v7 τe p c with
  |no=>rw[qo] at gds;exact gds.elim
  |ex c=>rw[qo] at gds;exact gds.elim
  |ok mf=>
   obtain⟨m,fs'⟩:=mf
   rw[qo] at gds
   dsimp only at gds
   by_cases hm:m=1∧xs.length≤sizeLine
   ·rw[if_pos hm] at gds
    obtain⟨rfl,hz⟩:=hm
    have na:a≠acc:=fun z=>by subst z;rw[o1] at hacc;cases hacc
    have nd:dx≠acc:=fun z=>by subst z;rw[o5] at hacc;cases hacc
    have hF1:F1 acc=none:=zH x.fh hacc
    have hA:wj H1 c a acc=none:=xg (YT H1 c a) hacc
    refine⟨fun j m σ1 Hc=>m=ds.length-j∧j≤ds.length∧∃F2 τ1 dn rs vs,CWE X.K set fo c a acc F1 H1 ds xs τe j σ1 Hc F2 τ1 dn rs vs,⟨ds.length,by simp,zero_le _,F1,_,[],xs,[],Reps.nil,(J3 R1.rv hk hp h1 q1).acc ?_ hF1 (.inl ⟨hA,hacc⟩),?_,q,rfl⟩,?_⟩
    ·intro j c' fs e;rcases vL e with ⟨_,e⟩|⟨_,d,j',e,_⟩ <;> cases e
    ·intro j c' fs e;rcases vL e with ⟨_,e⟩|⟨_,d,j',e,_⟩ <;> cases e
    rintro j m σ1 Hc ⟨rfl,hj,F2,τ1,dn,rs,vs,r2,R2,nr,cl,ex⟩
    obtain⟨i1,i2⟩:=io j F2 _ R2.zf R2.rv.fh
    by_cases hlt:j<ds.length
    ·have hd:ds.drop j=ds[j]::ds.drop (j+1):=drop_eq_getElem_cons hlt
     rw[hd,uN] at cl
     obtain⟨go,yl⟩:=i2 ds[j] (by simp[hlt])
     refine .inr ⟨go,fun y H' yy=>?_⟩
     obtain⟨F3,x3,r3⟩:=yl y H' yy
     refine⟨F3,τ1,ds[j],by rw[hK];exact(R2.ext x3).rv,by rw[hK];exact r3,?_⟩
     cases e1:set ds[j] τ1 with
     |no=>rw[e1] at cl;cases cl
     |ex c=>rw[e1] at cl;cases cl
     |ok τ2=>
      rw[e1] at cl
      simp only at cl
      intro σ2 _ RR _
      rw[hK] at RR
      have RR:=RR _ _ (R2.ext x3)
      have n3:=ns _ _ _ e1 nr
      refine⟨F3,τ2,by rw[hK];exact RR.rv,?_⟩
      intro F4 H4 x4
      rw[if_pos rfl]
      cases e3:fo τ2 with
      |no=>rw[e3] at cl;cases cl
      |ex c=>rw[e3] at cl;cases cl
      |ok zt=>
       obtain⟨z,τ3⟩:=zt
       rw[e3] at cl
       simp only at cl
       have n4:=no _ _ _ e3 n3
       cases e4:uN set fo (ds.drop (j+1)) τ3 with
       |no=>rw[e4] at cl;cases cl
       |ex c=>rw[e4] at cl;cases cl
       |ok rt=>
        obtain⟨rs',τ4⟩:=rt
        rw[e4] at cl
        have ers:z::rs'=rs∧τ4=τe:=by simpa using cl
        obtain⟨ers,rfl⟩:=ers
        refine⟨upd (wj H1 c a) acc (.lst vs),F1,F4,τ2,by rw[hK];exact RR.ext x4,?_⟩
        rw[e3]
        intro v F5 H5 f5 R5 r5
        rw[hK] at r5 R5
        have ff:Same F2 F5:=x3.ff.trans (x4.ff.trans f5)
        refine⟨vs,R5.bh acc _ zn,?_,ds.length-(j+1),by lia,rfl,hlt,F5,τ3,dn++[z],rs',vs++[v],(r2.mono ff).append (Reps.cons r5 Reps.nil),?_,n4,e4,?_⟩
        ·have:=congrArg List.length ex
         rw[← ers,length_append,length_cons,r2.length] at this
         lia
        ·have:=R5.acc (vs:=vs++[v]) n4 hF1 (.inr ⟨vs,zn⟩)
         rw[upd_upd] at this
         exact this
        ·rw[ex,← ers,append_assoc];rfl
    ·have e:j=ds.length:=by lia
     subst e
     rw[drop_length,uN] at cl
     cases cl
     rw[append_nil] at ex
     subst ex
     refine .inl ⟨i1 (le_refl _),?_⟩
     have z:=Jh qo
     obtain⟨a',p1,p2⟩:=R2.rv.ob.at_ p 1 c fs' z
     have hdx:upd (wj H1 c a) acc (.lst vs) dx=some (.own a):=by
      have n1:dx≠a:=fun z=>by subst z;rw[o1] at o5;cases o5
      have n2:dx∉Lof H1 c a:=fun z=>by
       rw[Lof.ins o1] at z
       obtain⟨_,ws',q⟩:=o4.own z
       rw[o5] at q;cases q
      rw[zi nd,vR n1 n2];exact o5
     have hBa:upd (wj H1 c a) acc (.lst vs) a=none:=by rw[zi na];exact Ya _ _ _
     have:=R2.sf a dx hdx hBa p 0 c fs' z
     obtain rfl:a'=a:=by rw[p1] at this;cases this;rfl
     obtain⟨oo1,oo2⟩:=R2.oo p 1 c fs' a' z p1
     have hF2:F2 acc=none:=by
      cases y:F2 acc with
      |none=>rfl
      |some u=>
       rcases R2.nb acc u y with w|w
       ·rw[hF1] at w;cases w
       ·rw[zn] at w;cases w
     have hHc:Hc acc=some (.lst vs):=R2.bh acc _ zn
     have sm:Same F2 (upd F2 acc (.lst vs)):=z7 hF2
     have lacc:∀l∈Lof Hc c a',l≠acc:=fun l hl w=>by
      subst w
      have:=oo2 l hl
      rw[zn] at this;cases this
     have ob':Xu X.K (upd F2 acc (.lst vs)) Hc c fs' a':=by
      obtain⟨C',dx',us,g1,g2,g3,g4,g5,g6⟩:=p2
      refine⟨C',dx',us,g1,by rw[zi na];exact g2,g3,g4.keep sm fun l ws' hl e1 e2=>⟨e1,?_⟩,g5,g6⟩
      rw[zi (lacc l (by rw[Lof.ins g1];exact hl))];exact e2
     have fh':Same (upd F2 acc (.lst vs)) Hc:=fun b u e=>by
      by_cases y:b=acc
      ·subst y;rw[zn] at e;cases e;exact hHc
      ·rw[zi y] at e;exact R2.rv.fh b u e
     refine gds (.ref acc) (upd F2 acc (.lst vs)) Hc (x.ff.trans (R2.zf.trans sm)) (R1.meth h1 q1 ⟨R2.zf.trans sm,fun b u e=>?_,fh',fun b u e=>?_,R2.rv.tt.freeze hHc⟩ ob' fun l hl=>?_) ?_
     ·have:b≠acc:=fun y=>by subst y;rw[hA] at e;cases e
      exact R2.bh b u (by rw[zi this];exact e)
     ·by_cases y:b=acc
      ·subst y;exact .inr hA
      ·rw[zi y] at e
       rcases R2.nb b u e with w|w
       ·exact .inl w
       ·rw[zi y] at w;exact .inr w
     ·have w:=oo2 l hl
      rw[zi (lacc l hl)] at w
      rcases uc w with y|y|y
      ·subst y
       obtain⟨C',dx',vs',g1,_,_,g4,_⟩:=p2
       rw[Lof.ins g1] at hl
       obtain⟨_,ws',q⟩:=g4.own hl
       rw[g1] at q;cases q
      ·exact .inl y
      ·exact .inr y
     ·simp only[Rep]
      exact⟨acc,vs,rfl,zn,r2.mono sm⟩
   ·rw[if_neg hm] at gds;exact gds.elim
theorem Gu(hb:uf X.env.scope scope=true)(hc:X.calm=true)(hfr:FreeOk scope X.N fr idx)(hk:tn.length≤p)(hp:idx[p-tn.length]?=some i)(ns:∀d τ τ',set d τ=.ok τ'→wV τ→wV τ')(no:∀τ d τ',fo τ=.ok (d,τ')→wV τ→wV τ')(hi:PDI X tg iter fi)
  (hg:∀s H C fp,PDG (X.comp scope (tn++fr) s H C fp) tg set) (he:∀s H C fp,LM (X.comp scope (tn++fr) s H C fp) elt fo)
  (hs:∀x,foldedSetIterable iter X.env x=pure x:=by intro _;rfl):LM X (.ListComp elt [⟨tg,iter,[],0⟩] scope pos) (XO tn.length idx i p c fi set fo):=
 PE.imp (Ja (s0:=wv tn.length idx) (g:=tG (X.comp scope (tn++fr) X.s₀ X.H₀ 0 []) set) (ti:=tTs (X.comp scope (tn++fr) X.s₀ X.H₀ 0 []) fun _=>.ok true) (te:=tOb (X.comp scope (tn++fr) X.s₀ X.H₀ 0 []) fo)
  (wt hb) hc (fun σ _=>by simp[wv,hfr.len]) (jM hfr) hi hg (fun _ _ _ _=>vP) he hs) (UC hk hp ns no rfl)
end
section
variable{P:Program}{w:World}{K:Frag}{mg:Str→Option Value}{base:Heap}
end
section
variable{X:Cx}{pos:Pos}{e a b:Expr}{es rest:List Expr}{fs:FA}{c m x:Str}{i k n:Nat}{ps:List Str}
end
noncomputable abbrev KI:=List (Key×Int)
noncomputable abbrev FD2:=DS→KI→Option (DS×KI)
section
variable{X:Cx}{i j r:Nat}{st:Stmt}{ss s1 s2:List Stmt}{fs:FS}{f g:FD2}{y:Str}{e e0 e0' ev iter c tg:Expr}{fe fk fv:FE}{gt:FT}{fi:FA}
noncomputable def dl(fs:FS):FD2:=fun τ ks=>match fs τ with
 |.nx τ'=>some (τ',ks)
 |_=>none
end
section
variable{X:Cx}
end
section
variable{X:Cx}{pins:List (Addr×Obj)}{σ:St}{H:Hp}{s:Shared}{a:Addr}{cls:Value}
end
section
variable{X:Cx}{pos:Pos}{e:Expr}{es:List Expr}{fe:FE}{fs:FA}
end
section
variable{X:Cx}{scope:Scope}{N':List Str}{tg iter elt:Expr}{pos:Pos}{wi:TI}{g:TG}{s0:St→St}
end
section
variable{X:Cx}{scope:Scope}{tn fr:List Str}{idx:List Nat}{tg iter elt:Expr}{pos:Pos}{set:FG}{r ri:DS→Rs D}
end
open PySem.W
noncomputable def cpI(x:Str):List Int:=x.cps.toList.map fun (c:Nat)=>(c:Int)
omit [Tabs] in
theorem Jl:∀a b:List Nat,decide (a<b)=lxI (a.map fun (c:Nat)=>(c:Int)) (b.map fun (c:Nat)=>(c:Int))
 |[],[]=>by simp[lxI]
 |[],_::_=>by simp[lxI]
 |_::_,[]=>by simp[lxI]
 |x::a,y::b=>by
  rw[map_cons,map_cons,lxI,← Jl a b]
  by_cases h:x=y
  ·subst h
   rw[if_pos rfl]
   simp[List.cons_lt_cons_iff]
  ·rw[if_neg (by lia)]
   simp only[List.cons_lt_cons_iff,h,false_and,or_false]
   rw[Bool.eq_iff_iff]
   simp
omit [Tabs] in
theorem zf2(a b:Str):decide (a.cps.toList<b.cps.toList)=lxI (cpI a) (cpI b):=Jl _ _
omit [Tabs] in
theorem JN{a b:Str}(h:cpI a=cpI b):a=b:=by
 unfold cpI at h
 have:a.cps.toList=b.cps.toList:=by
  have:=congrArg (List.map Int.toNat) h
  rw[map_map,map_map] at this
  simpa[Function.comp_def] using this
 cases a;cases b
 simp only[Str.mk.injEq]
 exact Array.toList_inj.mp this
noncomputable def TTs(h:Heap):List Value→List (Str×Int)→Prop
 |[],[]=>True
 |v::vs,p::ps=>(∃a o t u n,v=Value.ref a∧h.get? a=some o∧o.cls=.type "tuple" ∧ o.data=.seq #[.str p.1 t,.int p.2 u] n)∧TTs h vs ps
 |_,_=>False
omit [Tabs] in
theorem TTs.len{h:Heap}:∀{vs:List Value} {ps:List (Str×Int)},TTs h vs ps→vs.length=ps.length
 |[],[],_=>rfl
 |_::vs,_::ps,r=>by rw[length_cons,length_cons,TTs.len r.2]
 |[],_::_,r=>r.elim
 |_::_,[],r=>r.elim
omit [Tabs] in
theorem TTs.get{h:Heap}:∀{vs:List Value} {ps:List (Str×Int)} {i:Nat} {p:Str×Int},TTs h vs ps→ps[i]?=some p→∃a o t u n,vs.getD i Value.none=Value.ref a∧h.get? a=some o∧o.cls=.type "tuple" ∧ o.data=.seq #[.str p.1 t,.int p.2 u] n
 |[],[],_,_,_,hi=>by simp at hi
 |_::vs,q::ps,0,p,r,hi=>by
  obtain rfl:q=p:=by simpa using hi
  simpa using r.1
 |_::vs,_::ps,i+1,p,r,hi=>by
  obtain⟨a,o,t,u,n,q⟩:=TTs.get (i:=i) r.2 (by simpa using hi)
  exact⟨a,o,t,u,n,by simpa using q⟩
 |[],_::_,_,_,r,_=>r.elim
 |_::_,[],_,_,r,_=>r.elim
omit [Tabs] in
theorem TTs.firsts{h:Heap}:∀{vs:List Value} {ps:List (Str×Int)},TTs h vs ps→∃fs:List Value,KatTups h vs fs∧fs.length=vs.length∧∀v∈fs,∃n t,v=Value.str n t
 |[],[],_=>⟨[],KatTups.nil,rfl,fun _ z=>nomatch z⟩
 |v::vs,p::ps,⟨⟨a,o,t,u,n,e1,e2,e3,e4⟩,r⟩=>by
  obtain⟨fs,q1,q2,q3⟩:=TTs.firsts r
  subst e1
  refine⟨_,KatTups.cons e2 e3 e4 (show(#[Value.str p.1 t,Value.int p.2 u]:Array Value)[0]?=some (.str p.1 t) from rfl) q1,by simp[q2],fun v hv=>?_⟩
  rcases mem_cons.mp hv with rfl|hv
  ·exact⟨_,_,rfl⟩
  ·exact q3 v hv
 |[],_::_,r=>r.elim
 |_::_,[],r=>r.elim
section
variable{prog:Program}{w:World}{A:Around}{E:Value→Shared→Prop}{s:Shared}
omit [Tabs] in
theorem G8{vs:List Value}{ps:List (Str×Int)}{Q:SortKind→Shared→Prop}(h:TTs s.heap vs ps)(hn:0<vs.length)(q:Q (tuples' true) s):wpAny (model prog w) A (keyKind' vs.toArray) Q E s:=by
 obtain⟨fs,q1,q2,q3⟩:=h.firsts
 refine kat_kind (T:=.type "str") q1 (by lia) (fun v hv=>?_) (by decide) q
 obtain⟨i,t,rfl⟩:=q3 v hv
 exact Looks.now
theorem LI{vs:List Value}{ps:List (Str×Int)}{n:Nat}(h:TTs s.heap vs ps)(nd:(ps.map (·.1)).Nodup)(hn:ps.length=n)(i j:Nat)(C:Bool→Shared→Prop)(hi:i<n)(hj:j<n)(q:C (ltK (fun i=>(ps.map fun p=>cpI p.1).getD i []) i j) s):kas_ask prog w A (tuples' true) vs i j C s:=by
 have hi':ps[i]?=some (ps[i]'(by lia)):=getElem?_eq_getElem (by lia)
 have hj':ps[j]?=some (ps[j]'(by lia)):=getElem?_eq_getElem (by lia)
 obtain⟨a,o,t,u,m,e1,e2,e3,e4⟩:=h.get hi'
 obtain⟨a',o',t',u',m',f1,f2,f3,f4⟩:=h.get hj'
 have ki:(ps.map fun p=>cpI p.1).getD i []=cpI (ps[i]'(by lia)).1:=by simp[show i<ps.length by lia]
 have kj:(ps.map fun p=>cpI p.1).getD j []=cpI (ps[j]'(by lia)).1:=by simp[show j<ps.length by lia]
 have q:C (lxI (cpI (ps[i]'(by lia)).1) (cpI (ps[j]'(by lia)).1)) s:=by
  have q:C (lxI ((ps.map fun p=>cpI p.1).getD i []) ((ps.map fun p=>cpI p.1).getD j [])) s:=q
  rw[ki,kj] at q;exact q
 unfold kas_ask
 rw[e1,f1]
 refine kat_lt e2 e4 f2 f4 ?_
 refine kat_cons (wpAny_eqBool_str ?_)
 by_cases z:(ps[i]'(by lia)).1=(ps[j]'(by lia)).1
 ·have hij:i=j:=by
   rcases Nat.lt_trichotomy i j with y|y|y
   ·have:=pairwise_iff_getElem.mp nd i j (by simp;lia) (by simp;lia) y
    simp at this;exact absurd z this
   ·exact y
   ·have:=pairwise_iff_getElem.mp nd j i (by simp;lia) (by simp;lia) y
    simp at this;exact absurd z.symm this
  subst hij
  rw[decide_eq_true rfl]
  refine kat_yes (kat_cons (wpAny_eqBool_int ?_))
  rw[beq_self_eq_true]
  refine kat_yes (kat_nil ?_)
  rw[jy] at q
  exact q
 ·rw[decide_eq_false z]
  refine kat_no ?_
  exact oneLt_str (by rw[zf2];exact q)
theorem Tc{vs us:List Value}{ps:List (Str×Int)}{Q:SortSt→Shared→Prop}(h:TTs s.heap vs ps)(hl:vs.length=us.length)(h2:2≤us.length)(h64:us.length<64)(nd:(ps.map (·.1)).Nodup)
  (q:∀(p:Array Nat) (st:SortSt),PmK us.length p→Srt (fun i=>(ps.map fun p=>cpI p.1).getD i []) p us.length→(arrOf st).map (·.2)=List.toArray (p.toList.map fun i=>us.getD i Value.none)→failedOf st=none→Q st s) :
  wpAny (model prog w) A ((sortRuns').run (SortSt.mk' (tuples' true) (vs.toArray.zip us.toArray) #[] 7 none)) (fun r s'=>Q r.2 s') E s:=by
 have hk:ps.length=us.length:=by rw[← h.len,hl]
 refine kat_run (G:=fun p s'=>s'=s∧PmK us.length p∧Srt (fun i=>(ps.map fun p=>cpI p.1).getD i []) p us.length) hl h2 h64 (fun p st' s' h1 h3 h4 h5=>?_) ?_
 ·obtain⟨rfl,h5,h6⟩:=h5
  exact q p st' h5 h6 (kat_snds hl h3) h4
 ·have inj:∀i j,i<us.length→j<us.length→(ps.map fun p=>cpI p.1).getD i []=(ps.map fun p=>cpI p.1).getD j []→i=j:=fun i j hi hj e=>by
   have ki:(ps.map fun p=>cpI p.1).getD i []=cpI (ps[i]'(by lia)).1:=by simp[show i<ps.length by lia]
   have kj:(ps.map fun p=>cpI p.1).getD j []=cpI (ps[j]'(by lia)).1:=by simp[show j<ps.length by lia]
   rw[ki,kj] at e
   have e:=JN e
   rcases Nat.lt_trichotomy i j with y|y|y
   ·have:=pairwise_iff_getElem.mp nd i j (by simp;lia) (by simp;lia) y
    simp at this;exact absurd e this
   ·exact y
   ·have:=pairwise_iff_getElem.mp nd j i (by simp;lia) (by simp;lia) y
    simp at this;exact absurd e.symm this
  exact Pw.wp (fun i j C hi hj=>LI h nd hk i j C hi hj) (fun p hp=>⟨rfl,hp⟩) _ (UT (κ:=fun i=>(ps.map fun p=>cpI p.1).getD i []) inj h2)
end
open PySem.W
noncomputable def wu(p:Str×Int):D:=.tup [.str p.1,.int p.2]
noncomputable def layT(H:Hp):List Addr→SI→Hp
 |a::as,p::ps=>upd (layT H as ps) a (.tup [.str p.1,.int p.2])
 |_,_=>H
omit [Tabs] in
theorem uJ{H:Hp}{b:Addr}:∀{as:List Addr} {ps:SI},b∉as→layT H as ps b=H b
 |[],_,_=>by unfold layT;rfl
 |a::as,[],_=>by unfold layT;rfl
 |a::as,p::ps,h=>by
  unfold layT
  rw[zi (fun z=>h (by simp[z])),uJ fun z=>h (by simp[z])]
omit [Tabs] in
theorem Vx{H:Hp}{b:Addr}{u:HO}:∀{as:List Addr} {ps:SI},layT H as ps b=some u→(b∉as∧H b=some u)∨H b=some u∨∃(j:Nat) (p:Str×Int),as[j]?=some b∧ps[j]?=some p∧u=.tup [.str p.1,.int p.2]
 |[],_,h=>by unfold layT at h;exact .inl ⟨by simp,h⟩
 |a::as,[],h=>by unfold layT at h;exact .inr (.inl h)
 |a::as,p::ps,h=>by
  unfold layT at h
  by_cases z:b=a
  ·subst z
   rw[zn] at h
   cases h
   exact .inr (.inr ⟨0,p,rfl,rfl,rfl⟩)
  ·rw[zi z] at h
   rcases Vx h with ⟨h1,h2⟩|h2|⟨j,q,h1,h2,h3⟩
   ·exact .inl ⟨by simp[z,h1],h2⟩
   ·exact .inr (.inl h2)
   ·exact .inr (.inr ⟨j+1,q,by simpa using h1,by simpa using h2,h3⟩)
theorem Vy{F H:Hp}(fh:Same F H):∀{as:List Addr} {ps:SI},as.Pairwise (· < ·)→(∀a∈as,H a=none)→Ext F H (layT F as ps) (layT H as ps)
 |[],_,_,_=>by unfold layT;exact Ext.refl fh
 |a::as,[],_,_=>by unfold layT;exact Ext.refl fh
 |a::as,p::ps,hp,hn=>by
  have hp':=pairwise_cons.mp hp
  have x:=Vy fh (as:=as) (ps:=ps) hp'.2 fun b hb=>hn b (mem_cons_of_mem _ hb)
  have hna:a∉as:=fun z=>lt_irrefl _ (hp'.1 a z)
  unfold layT
  exact x.trans (Ext.new x.fh (by rw[uJ hna];exact hn a (mem_cons_self ..)))
theorem XZ{K:Frag}{F:Hp}:∀{as:List Addr} {ps:SI},as.Pairwise (· < ·)→(∀a∈as,F a=none)→as.length=ps.length→Reps K (layT F as ps) (ps.map wu) (as.map V.ref)
 |[],[],_,_,_=>Reps.nil
 |a::as,p::ps,hp,hF,hl=>by
  have hp':=pairwise_cons.mp hp
  have hna:a∉as:=fun z=>lt_irrefl _ (hp'.1 a z)
  have ih:=XZ (K:=K) (F:=F) (as:=as) (ps:=ps) hp'.2 (fun b hb=>hF b (mem_cons_of_mem _ hb)) (by simpa using hl)
  rw[map_cons,map_cons]
  refine Reps.cons ?_ ?_
  ·unfold wu
   simp only[Rep]
   exact⟨a,[.str p.1,.int p.2],rfl,SqT.of (by unfold layT;exact zn),Reps.cons (by simp only[Rep]) (Reps.cons (by simp only[Rep]) Reps.nil)⟩
  ·unfold layT
   exact ih.mono (z7 (by rw[uJ hna];exact hF a (mem_cons_self ..)))
 |[],_::_,_,_,hl=>by simp at hl
 |_::_,[],_,_,hl=>by simp at hl
section
variable{X:Cx}{pins:List (Addr×Obj)}{σ:St}{F H:Hp}{s:Shared}{h':Heap}
theorem Inv.layT{as:List Addr}{ps:SI}{t':Nat}(I:Inv X pins σ H s)(k:∀b u,s.heap.get? b=some u→h'.get? b=some u)(hp:∀a∈as,s.heap.objs.size≤a)(hl:as.length=ps.length)
  (new:∀(j:Nat) (a:Addr) (p:Str×Int),as[j]?=some a→ps[j]?=some p→∃o t u n,h'.get? a=some o∧o.cls=.type "tuple" ∧ o.data=.seq #[.str p.1 t,.int p.2 u] n):Inv X pins σ (FD.layT H as ps) { s with heap:=h',toks:=t' }:=by
 have hn:∀a∈as,H a=none:=fun a ha=>I.hok.fresh (hp a ha)
 have old:∀{b:Addr} {u:HO},H b=some u→FD.layT H as ps b=some u:=fun {b u} e=>by
  rw[uJ fun z=>by rw[hn b z] at e;cases e];exact e
 refine I.un ⟨fun b u q _ _ _=>k b u q,fun b u q _ _ _=>⟨u.slots,k b u q⟩,fun b u q n _=>?_,fun b u q _=>⟨u,k b u q⟩,fun b xs q=>old q,fun b u xs q=>old q,fun b qs q=>⟨#[],by rw[old q];simp⟩⟩ fun b u e=>?_
 ·rw[uJ fun z=>absurd (Heap.lt_size q) (Nat.not_lt.mpr (hp b z))];exact n
 ·have keep:H b=some u→ObjOk X.prog X.w (FD.layT H as ps) h' b u:=fun e=>(I.hok b u e).stay (fun c v _ q=>k c v q) (fun c q=>old q) fun c xs q=>old q
  rcases Vx e with ⟨_,e⟩|e|⟨j,p,h1,h2,h3⟩
  ·exact keep e
  ·exact keep e
  ·subst h3
   obtain⟨o,t,v,n,e1,e2,e3⟩:=new j b p h1 h2
   exact⟨show(2:Nat)≤sizeLine by decide,[.str p.1 t,.int p.2 v],.cons ⟨t,rfl⟩ (.cons ⟨v,rfl⟩ .nil),o,e1,e2,n,e3⟩
end
open PySem.W
omit [Tabs] in
theorem Jr:∀{ks:SI} {vs:List (Key×Value)},KV (kvI ks) vs→vs.length=ks.length∧∀(j:Nat) (k:Key) (x:Value),vs[j]?=some (k,x)→∃p u,ks[j]?=some p∧k=Sum.inr p.1∧x=.int p.2 u
 |[],_,r=>by
  unfold KV kvI at r
  cases r
  exact⟨rfl,fun j k x h=>by simp at h⟩
 |p::ks,_,r=>by
  unfold KV at r
  cases r with
  |cons h1 h2=>
   rename_i q vs
   obtain⟨i1,i2⟩:=Jr (ks:=ks) h2
   refine⟨by simp[i1],fun j k x h=>?_⟩
   cases j with
   |zero=>
    obtain⟨t,ht⟩:=h1.2
    have e:q=(k,x):=by simpa using h
    subst e
    exact⟨p,t,rfl,h1.1.symm,ht⟩
   |succ j=>
    obtain⟨p',u,a,b,c⟩:=i2 j k x (by simpa using h)
    exact⟨p',u,by simpa using a,b,c⟩
section
variable{X:Cx}{pins:List (Addr×Obj)}{σ:St}{F H:Hp}{τ:DS}{s:Shared}{Q:VK}{E:Value→Shared→Prop}
theorem Wg{r d:Addr}{ks:SI}(hh:X.A.handled=none)(I:Inv X pins σ H s)(fh:Same F H)(hd:H d=some (.dK (kvI ks)))(hv:s.heap.IsItemsView r d)(h64:ks.length<64)(nd:(ks.map (·.1)).Nodup)
  (hQ:∀Da F' H',Ext F H F' H'→Rep X.K F' (.lst ((xM ((ks.map fun p=>cpI p.1).zip (ks.map wu))).map (·.2))) (.ref Da)→Q (.ref Da) H') :
  wpAny (model X.prog X.w) X.A (call (.builtin "sorted") [.ref r]) (EP X pins σ Q) E s:=by
 obtain⟨zl,sy,kvs,rel,hm⟩:=JI I.hok hd
 obtain⟨ep,hm⟩:∃ep,s.heap.DictAt (yD X.prog X.w) d kvs ep:=by
  obtain⟨o,es,ep,h1,h2,h3,h4⟩:=hm
  exact⟨ep,o,es,h1,h2,h3,h4⟩
 obtain⟨kl,kg⟩:=Jr rel
 refine Calls.call_function_entry kind_sorted plain_sorted entry_sorted (args_sorted1 _) ?_
 unfold Builtin.«sorted»
 refine wpAny_bind (m:=checkCount "sorted" 1 1 _) (wpAny_pure ?_)
 refine wpAny_bind (kdx_collect (A:=X.A.in1) (knd:=yD X.prog X.w) hh hv hm (le_of_lt (xi (by lia))) fun h0 tk as hk0 hl0 hG=>?_)
 have la:as.length=ks.length:=hl0.trans kl
 have sz:(as.map Value.ref).length≤sizeLine:=by rw[length_map];exact le_of_lt (xi (by lia))
 have new:∀(j:Nat) (a:Addr) (p:Str×Int),as[j]?=some a→ks[j]?=some p→∃o t u n,h0.get? a=some o∧o.cls=.type "tuple" ∧ o.data=.seq #[.str p.1 t,.int p.2 u] n:=fun j a p ha hp=>by
  obtain⟨key,k,x,e1,e2,e3⟩:=hG.pairs j a ha
  obtain⟨p',u,f1,f2,f3⟩:=kg j k x e1
  rw[hp] at f1;cases f1
  subst f2;subst f3
  obtain⟨t,rfl⟩:=U0 e2
  exact⟨_,t,u,_,e3,rfl,rfl⟩
 have ge:∀a∈as,s.heap.objs.size≤a:=fun a ha=>le_of_lt (hG.above a ha)
 have nHa:∀a∈as,H a=none:=fun a ha=>I.hok.fresh (ge a ha)
 have I0:Inv X pins σ (FD.layT H as ks) { s with heap:=h0,toks:=tk }:=Inv.layT I hk0 ge la new
 have x0:=Vy (ps:=ks) fh hG.rise nHa
 have rs:Reps X.K (FD.layT F as ks) (ks.map wu) (as.map V.ref):=XZ hG.rise (fun a ha=>zH fh (nHa a ha)) la
 have rv:Vals (as.map V.ref) (as.map Value.ref):=by
  clear hG nHa ge new I0 x0 rs la sz hl0
  induction as with
  |nil=>exact .nil
  |cons a as ih=>exact .cons rfl ih
 generalize FD.layT F as ks=F0 at x0 rs
 generalize FD.layT H as ks=H0 at x0 I0
 have fh0:Same F0 H0:=x0.fh
 have l1:(ks.map wu).length=(as.map Value.ref).length:=by simp[la]
 have tts:∀(h:Heap),(∀b u,h0.get? b=some u→h.get? b=some u)→TTs h (as.map Value.ref) ks:=fun h kp=>by
  have go:∀(as:List Addr) (ks:SI),as.length=ks.length→(∀(j:Nat) (a:Addr) (p:Str×Int),as[j]?=some a→ks[j]?=some p→∃o t u n,h0.get? a=some o∧o.cls=.type "tuple" ∧ o.data=.seq #[.str p.1 t,.int p.2 u] n)→TTs h (as.map Value.ref) ks:=fun as=>by
   induction as with
   |nil=>intro ks hl _;cases ks;exact trivial;simp at hl
   |cons a as ih=>
    intro ks hl hn
    cases ks with
    |nil=>simp at hl
    |cons p ks=>
     obtain⟨o,t,u,n,e1,e2,e3⟩:=hn 0 a p rfl rfl
     exact⟨⟨a,o,t,u,n,rfl,kp _ _ e1,e2,e3⟩,ih ks (by simpa using hl) fun j b q h1 h2=>hn (j+1) b q (by simpa using h1) (by simpa using h2)⟩
  exact go as ks la new
 refine wpAny_bind (wpAny_newList ?_ sz)
 generalize hus:as.map Value.ref=us at *
 generalize hvs:as.map V.ref=vs at *
 have lu:us.length=ks.length:=by rw[← l1];simp
 have hD:(h0.push (seqObj "list" us.toArray 0)).get? h0.objs.size=some (seqObj "list" us.toArray 0):=Heap.get?_push_size _ rfl
 have keep2:∀b u,h0.get? b=some u→(h0.push (seqObj "list" us.toArray 0)).get? b=some u:=fun b u q=>get?_push_of_some _ q
 generalize hDa:h0.objs.size=Da at hD
 have neD:∀b u,h0.get? b=some u→b≠Da:=fun b u q=>by rw[← hDa];exact ne_of_lt (Heap.lt_size q)
 generalize hh2:h0.push (seqObj "list" us.toArray 0)=h2 at hD keep2
 refine wpAny_bind (wpAny_holding (wpAny_call_entry (rest:=[]) slot_list_sort ⟨_,hD,rfl⟩ entry_list_sort ?_ (args_list_sort _)))
 rw[list_sort_plain Da]
 refine wpAny_bind (listItems_at hD rfl ?_);refine wpAny_bind (listUpdate_at hD rfl ?_ (by rw[size_toArray];exact sz) (zero_le _))
 have keep3:∀b u,h0.get? b=some u→(h2.update Da (Obj.mapSeq fun _=>(#[]:Array Value))).get? b=some u:=fun b u q=>by
  rw[Heap.get?_update_ne _ _ _ _ (neD b u q)];exact keep2 b u q
 obtain⟨e1,hD3⟩:∃e1,(h2.update Da (Obj.mapSeq fun _=>(#[]:Array Value))).get? Da=some (seqObj "list" #[] e1):=⟨_,get?_update_seq hD fun _=>#[]⟩
 generalize h2.update Da (Obj.mapSeq fun _=>(#[]:Array Value))=h3 at keep3 hD3
 refine wpAny_bind (seqEpoch_at hD3 rfl ?_);refine wpAny_bind (wpAny_newTuple ?_ (by show us.length≤sizeLine;exact sz));refine wpAny_bind (wpAny_newList ?_ (zero_le _))
 refine wpAny_holding ?_
 have hDa0:h0.objs.size≤Da:=Nat.le_of_eq hDa
 have nH:H0 Da=none:=I0.hok.fresh hDa0
 have neL:Da≠X.env.locals:=(ne_of_lt (lt_of_lt_of_le I0.lt hDa0)).symm
 have pinD:∀q∈X.pn++pins,q.1≠Da:=fun q hq=>neD _ _ (I0.pin q hq).1
 have cellD:∀x c,X.env.cells.lookup x=some c→c≠Da:=fun x c e=>by
  obtain⟨v,oc,hoc,_⟩:=I0.cell x c e
  exact neD _ _ hoc
 have keep4:∀b u,h3.get? b=some u→((h3.push (seqObj "tuple" us.toArray 0)).push (seqObj "list" #[] 0)).get? b=some u:=fun b u q=>get?_push_of_some _ (get?_push_of_some _ q)
 have I1:Inv X pins σ H0 { s with heap:=(h3.push (seqObj "tuple" us.toArray 0)).push (seqObj "list" #[] 0),toks:=tk }:=Inv.kept (s:={ s with heap:=h0,toks:=tk }) (t':=tk) I0 fun b u q=>keep4 _ _ (keep3 b u q)
 have I2:Inv X (pins++[(Da,seqObj "list" #[] e1)]) σ H0 { s with heap:=(h3.push (seqObj "tuple" us.toArray 0)).push (seqObj "list" #[] 0),toks:=tk }:=I1.pins_of fun q hq=>by
  rcases mem_append.mp hq with hq|hq
  ·exact I1.pin q (mem_append_right _ hq)
  ·have:q=(Da,seqObj "list" #[] e1):=by simpa using hq
   subst this
   exact⟨keep4 _ _ hD3,nH,neL,I0.nofs hDa0,fun v z=>nomatch z⟩
 have h0D:X.s₀.heap.objs.size≤Da:=le_trans I0.sz hDa0
 have kp:∀b u,h0.get? b=some u→((h3.push (seqObj "tuple" us.toArray 0)).push (seqObj "list" #[] 0)).get? b=some u:=fun b u q=>keep4 _ _ (keep3 b u q)
 have kt:=tts _ kp
 generalize (h3.push (seqObj "tuple" us.toArray 0)).push (seqObj "list" #[] 0)=h4 at I1 I2 keep4 kt kp
 have eD:h4.get? Da=some (seqObj "list" #[] e1):=keep4 _ _ hD3
 try dsimp only
 have fin:∀(st:SortSt) (out:List Value) (ovs:List V),(arrOf st).map (·.2)=List.toArray out→failedOf st=none→out.length<64→Vals ovs out→Reps X.K F0 ((xM ((ks.map fun p=>cpI p.1).zip (ks.map wu))).map (·.2)) ovs →
   wpAny (model X.prog X.w) X.A.in1.in1 (Zk Da e1 st) (fun fin s'=>∃v,fin=.done (.ret v)∧wpAny (model X.prog X.w) X.A.in1 (ret (.ref Da)) (fun fin s'=>∃v,fin=.done (.ret v)∧EP X pins σ Q v s') E s') E { s with heap:=h4,toks:=tk }:=fun st out ovs hout hf hz r ro=>by
  unfold Zk
  try dsimp only
  refine wpAny_bind (seqEpoch_at eD rfl ?_)
  refine wpAny_bind (listUpdate_at eD rfl ?_ (zero_le _) (by rw[hout,size_toArray];exact le_trans (le_of_lt (xi (by lia))) (le_succ _)))
  rw[hf]
  simp only[bne_self_eq_false,Bool.false_eq_true,if_false]
  refine wpAny_pure ⟨_,rfl,wpAny_pure ⟨_,rfl,.ref Da,_,Inv.settle I2 rfl (ws:=out) hout r (by rw[r.length];exact le_of_lt (xi (by lia))) h0D cellD pinD,rfl,hQ Da (upd F0 Da (.lst ovs)) _ (x0.trans (Ext.new fh0 nH)) ?_⟩⟩
  simp only[Rep]
  exact⟨Da,ovs,rfl,zn,ro.mono (z7 (zH fh0 nH))⟩
 by_cases h2:us.length<2
 ·have h2':us.toArray.size<2:=by rw[size_toArray];exact h2
  rw[if_pos h2',if_pos h2']
  refine wpAny_bind (wpAny_pure ?_)
  rw[StateT.run_pure]
  refine wpAny_bind (wpAny_pure ?_)
  refine fin _ us vs ?_ rfl (by lia) rv ?_
  ·show((us.toArray.zip us.toArray).map (·.2))=us.toArray
   apply Array.toList_inj.mp
   rw[Array.toList_map,ksk_zip]
   exact List.map_snd_zip (by simp)
  ·rw[Yh (by rw[length_map,length_map]) (by rw[length_map];lia)];exact rs
 ·have h2':¬ us.toArray.size<2:=by rw[size_toArray];exact h2
  rw[if_neg h2',if_neg h2']
  refine wpAny_bind (G8 kt (by lia) ?_)
  have ndk:(ks.map fun p=>cpI p.1).Nodup:=by
   have e:(ks.map fun p=>cpI p.1)=(ks.map (·.1)).map cpI:=by rw[map_map];rfl
   rw[e]
   exact List.Pairwise.map _ (fun a b hab z=>hab (JN z)) nd
  refine wpAny_bind (Tc (Q:=fun st s'=>wpAny (model X.prog X.w) X.A.in1.in1 (Zk Da e1 st) (fun fin s'=>∃v,fin=.done (.ret v)∧wpAny (model X.prog X.w) X.A.in1 (ret (.ref Da)) (fun fin s'=>∃v,fin=.done (.ret v)∧EP X pins σ Q v s') E s') E s') kt rfl (by lia) (by lia) nd fun p st h3 h4 h5 h6=>?_)
  have hp:∀i∈p.toList,i<us.length:=fun i hi=>by simpa using h3.mem_iff.mp hi
  refine fin st _ (p.toList.map fun i=>vs.getD i .non) h5 h6 ?_ (Zc rv _ fun i hi=>by rw[rv.length];exact hp i hi) ?_
  ·rw[length_map,h3.length_eq,length_range];lia
  ·rw[← WZ (q:=p) (d:=.non) (by rw[length_map,length_map]) ndk (by rw[l1];exact h3) (by rw[l1];exact h4)]
   exact Reps.pick rs _ fun i hi=>by rw[l1];exact hp i hi
end
open PySem.W
noncomputable def vI(ks:SI):D:=.lst ((xM ((ks.map fun p=>cpI p.1).zip (ks.map wu))).map (·.2))
noncomputable def tSI(X:Cx)(td:TE):TE:=fun σ H Q=>td σ H fun x H1=>∃a ks F,x=.ref a∧Same F H1∧H1 a=some (.dK (kvI ks))∧ks.length<64∧(ks.map (·.1)).Nodup∧∀Da F' H',Ext F H1 F' H'→Rep X.K F' (vI ks) (.ref Da)→Q (.ref Da) H'
section
variable{X:Cx}{o:Expr}{td:TE}{p pos apos cpos:Pos}
theorem Wq(hc:X.calm=true)(ho:PE X o td)(hg:Gl X "sorted")(hm:X.mg "sorted" = none)(hb:attributeBase o "items" X.env (eval o X.env)=eval o X.env:=by rfl)
  (hfew:((backTo cpos (starEach [] X.env)).all (fun x=>!x.1)&&(backToKw cpos (keywordEach [] X.env)).all (fun x=>x.1.isSome)&&decide (([]:List Expr).length+([]:List Keyword).length+(if ([]:List Keyword).isEmpty then 0 else 1)<30))=true:=by rfl)
  (hline:(apos.endLine==cpos.line)=true:=by rfl) (ht:backTo cpos (starEach [] X.env)=[]:=by rfl)
  (he:starEach [.Call (.Attribute o "items" apos) [] [] cpos] X.env=[(false,eval (.Call (.Attribute o "items" apos) [] [] cpos) X.env)]:=by rfl) (hpl:(backTo pos (starEach [] X.env)).any (·.1)=false:=by rfl) (hs0:starEach [] X.env=[]:=by rfl) :
  PE X (.Call (.Name "sorted" p) [.Call (.Attribute o "items" apos) [] [] cpos] [] pos) (tSI X td):=by
 intro pins s σ H Q I h
 refine wpAny_Call_Name_kw (uI I hg hm boot_sorted ?_ (by decide) (by decide))
 refine PyProof.Rows.callWith_builtin1 ?_ (by rw[he,hs0]) hpl
 rw[he]
 refine Calls.spliced_cons ?_
 refine wpAny_Call_method hb hfew hline PySem.F.plainAttrs_dict PySem.F.slot_dict_items PySem.F.type_dict_items (thn (ho pins s σ H _ I h) fun u s1 z_=>?_)
 obtain⟨x,H1,I1,rx,a,ks,F,ex,fh,ha,h64,nd,q⟩:=z_
 subst ex
 obtain rfl:u=Value.ref a:=rx
 obtain⟨t1,t2,lo⟩:=Mf I1 (.inl ⟨_,.inl ha⟩)
 refine⟨t1,t2,?_⟩
 obtain⟨zl,sy,kvs,rel,hD⟩:=JI I1.hok ha
 rw[ht]
 refine Calls.callWith_builtin rfl (PySem.evalArgs_none ?_)
 refine call_meetsIn PySem.F.slot_dict_items hD.typeIs PySem.F.entry_dict_items (PySem.F.args_dict_items_1 _) (meets_dict_items (yD X.prog X.w) a lo) ⟨⟨kvs,hD⟩,?_⟩
 refine Calls.spliced_nil ?_
 have I2:Inv X pins σ H1 { s1 with heap:=s1.heap.push { cls:=.type "dict_items", data:=.fields #[.ref a] } }:=I1.kept (t':=s1.toks) fun b u e=>get?_push_of_some _ e
 exact Wg (I.ok.hd hc) I2 fh ha ⟨_,Heap.get?_push_size _ rfl,rfl,rfl⟩ h64 nd fun Da F' H' x r=>q Da F' H' x r
end
open PySem.W
theorem RS.forget{K:Frag}{B Z F H:Hp}{τ:DS}{σ:St}{j:Nat}(R:RS K B Z F τ σ H)(vl:Vl (τ.set j none)):RS K B Z F (τ.set j none) σ H:=by
 have get:∀(k:Nat) (s:Sl),(τ.set j none)[k]?=some (some s)→τ[k]?=some (some s):=fun k s h=>by
  by_cases z:j=k
  ·subst z
   rw[getElem?_set] at h
   simp only[if_true] at h
   split at h <;> cases h
  ·rw[getElem?_set_ne z] at h;exact h
 have own:∀(k:Nat) ds,(τ.set j none)[k]?≠some (some (.own ds)):=fun k ds h=>by obtain⟨d,e⟩:=vl k _ h;cases e
 have obj:∀(k n:Nat) c fs,(τ.set j none)[k]?≠some (some (.obj n c fs)):=fun k n c fs h=>by obtain⟨d,e⟩:=vl k _ h;cases e
 have obr:∀(k:Nat) c fs,(τ.set j none)[k]?≠some (some (.obr c fs)):=fun k c fs h=>by obtain⟨d,e⟩:=vl k _ h;cases e
 exact⟨⟨R.rv.fh,by rw[length_set];exact R.rv.len,fun k d h=>R.rv.val k d (get k _ h),fun k ds h=>absurd h (own k ds),fun k l ds es a _ h=>absurd h (own k ds),R.rv.tt,ObsOk.none vl.noObj⟩,R.bh,R.zf,R.nb,fun k ds a h=>absurd h (own k ds),fun k n c fs a h=>absurd h (obj k n c fs),fun a0 dx _ _ k n c fs h=>absurd h (obj k _ c fs),fun k c fs a h=>absurd h (obr k c fs)⟩
noncomputable def Wm(i j:Nat)(c fl:Str)(r:Nat)(f:FG3):FS:=fun τ=>match J4 τ j c fl with
 |.ok ds=>if vlB (τ.set j none)=true∧i<τ.length∧i≠j then (match wN f r ds ((τ.set j none).set i none) [] with
  |some p=>if p.2.length<64∧(p.2.map (·.1)).Nodup then .rt (vI p.2) else .no
  |none=>.no) else .no
 |_=>.no
section
variable{X:Cx}{i j r:Nat}{y x sf c fl:Str}{f:FG3}{C:Addr}{body:List Stmt}{yp dp a1 tp p1 p2 fp p q apos cpos pos rp:Pos}
theorem Uf(hN:X.N.Nodup)(hc:X.calm=true)(hp:PassesOwn (model X.prog X.w) X.A X.env X.xe)(hy:X.N[i]?=some y)(hly:Loc X.env.scope y)(hxr:X.N[r]?=some x)(hlr:Loc X.env.scope x)(hri:r≠i)
  (hx:PE X (.Name sf p1) (wX j)) (hC:nsIn X.K mainGlobals c=some (some (.ref C))) (cl:Cls X.K C) (na:NoAttr X.K C fl) (hb:PSs X body (tGi X i f)) (hpy:PE X (.Name y q) (wX i)) (hgs:Gl X "sorted") (hms:X.mg "sorted" = none) (ho:Tabs.own c fl=true:=by rfl)
  (hsw:swapsWith (.Dict [] [] dp) (some (.Name y yp)) a1.line X.env=pure false:=by rfl) (hfy:X.fn y=true∨X.env.scope.names.lookup y=some .local:=by first|exact .inl rfl|exact .inr rfl|assumption) (hfr:X.fn x=true∨X.env.scope.names.lookup x=some .local:=by first|exact .inl rfl|exact .inr rfl|assumption)
  (hs2:∀v,foldedSetIterable (.Attribute (.Name sf p1) fl p2) X.env v=pure v:=by intro _;rfl)
  (hbs:attributeBase (.Name y q) "items" X.env (eval (.Name y q) X.env)=eval (.Name y q) X.env:=by rfl)
  (hfew:((backTo cpos (starEach [] X.env)).all (fun x=>!x.1)&&(backToKw cpos (keywordEach [] X.env)).all (fun x=>x.1.isSome)&&decide (([]:List Expr).length+([]:List Keyword).length+(if ([]:List Keyword).isEmpty then 0 else 1)<30))=true:=by rfl)
  (hline:(apos.endLine==cpos.line)=true:=by rfl) (ht:backTo cpos (starEach [] X.env)=[]:=by rfl)
  (he:starEach [.Call (.Attribute (.Name y q) "items" apos) [] [] cpos] X.env=[(false,eval (.Call (.Attribute (.Name y q) "items" apos) [] [] cpos) X.env)]:=by rfl) (hpl:(backTo pos (starEach [] X.env)).any (·.1)=false:=by rfl) (hs0:starEach [] X.env=[]:=by rfl) :
  uk X [.Assign [.Name y yp] (.Dict [] [] dp) a1,.For (.Name x tp) (.Attribute (.Name sf p1) fl p2) body [] fp,.Return (some (.Call (.Name "sorted" p) [.Call (.Attribute (.Name y q) "items" apos) [] [] cpos] [] pos)) rp] (Wm i j c fl r f):=
 PSs.imp (uA (Yn (i:=i) hN hy hly Vd hsw hfy) (uA (Uc hp hc (Tt (U8 hx)) (jQ hN hxr hlr hfr) hb hs2) (uU (Yo (Wq hc hpy hgs hms hbs hfew hline ht he hpl hs0))))) fun E σ H h=>by
  obtain⟨B,Z,F,τ,R,h⟩:=h
  unfold Wm at h
  cases qr:J4 τ j c fl with
  |no=>rw[qr] at h;exact h.elim
  |ex k=>rw[qr] at h;exact h.elim
  |ok ds=>
  rw[qr] at h
  simp only at h
  by_cases z:vlB (τ.set j none)=true∧i<τ.length∧i≠j
  rotate_left
  ·rw[if_neg z] at h;exact h.elim
  rw[if_pos z] at h
  obtain⟨z1,z2,z3⟩:=z
  have vl:=QL z1
  cases qh:wN f r ds ((τ.set j none).set i none) [] with
  |none=>rw[qh] at h;exact h.elim
  |some pr=>
  obtain⟨τe,kse⟩:=pr
  rw[qh] at h
  simp only at h
  by_cases z4:kse.length<64∧(kse.map (·.1)).Nodup
  rotate_left
  ·rw[if_neg z4] at h;exact h.elim
  rw[if_pos z4] at h
  obtain⟨ds',a,C',dx,vs,l,ws,h1,h2,h3,h4,h5,h7,rfl⟩:=Te (P:=fun ds'=>ds'=ds) R ho (by rw[qr];exact rfl)
  obtain rfl:C=C':=by rw[hC] at h3;cases h3;rfl
  intro dp' hp'
  have bp:B dp'=none:=GO R.bh hp'
  have fp':F dp'=none:=GN R.rv.fh hp'
  obtain⟨R1,v1⟩:=RS.drop (i:=i) (v:=some (.ref dp')) (RS.free (o:=.dK []) (RS.forget R vl) vl bp fp' (.inl hp')) vl
  have na':a≠dp':=fun e=>by rw[e,hp'] at h2;cases h2
  have hl:H l=some (.lst ws):=R.bh _ _ h5
  have nl:l≠dp':=fun e=>by rw[e,hp'] at hl;cases hl
  refine⟨_,by rw[getElem?_set_ne z3];exact h1,a,C,dx,vs,.ref l,rfl,by rw[zi na'];exact h2,cl,na,h4,l,rfl,⟨ws,SqL.of (by rw[zi nl];exact hl)⟩,?_⟩
  refine⟨fun n m σ H=>m=ds'.length-n∧n≤ds'.length∧∃F' τ' ks',Same F F'∧RS X.K B Z F' τ' σ H∧Vl τ'∧Di B F' H σ i ks' dp'∧wN f r (ds'.drop n) τ' ks'=some (τe,kse),⟨ds'.length,by simp,zero_le _,F,(τ.set j none).set i none,[],Same.refl _,R1,v1,⟨?_,bp,fp',zn⟩,qh⟩,?_⟩
  ·rw[getElem?_set_self (by rw[← R.rv.len];exact z2)]
  rintro n m σ2 H2 ⟨rfl,hn,F2,τ2,k2,f2,R2,v2,D2,g2⟩
  obtain⟨i1,i2⟩:=itl_h (K:=X.K) (i:=n) h5 R2.bh R2.rv.fh (h7.mono f2)
  by_cases hlt:n<ds'.length
  ·have hd:ds'.drop n=ds'[n]::ds'.drop (n+1):=drop_eq_getElem_cons hlt
   rw[hd] at g2
   obtain⟨go,yl⟩:=i2 ds'[n] (by simp[hlt])
   refine .inr ⟨go,fun σ' H'=>∃F' τ' ks',Same F2 F'∧RS X.K B Z F' τ' σ' H'∧Vl τ'∧Di B F' H' σ' i ks' dp'∧wN f r (ds'.drop (n+1)) τ' ks'=some (τe,kse),fun σ' H' ⟨F',τ',ks',a,b,c,t,e⟩=>⟨ds'.length-(n+1),by lia,rfl,hlt,F',τ',ks',f2.trans a,b,c,t,e⟩,fun w H' yy=>?_⟩
   obtain⟨F3,x3,r3⟩:=yl w H' yy
   have R3:=(R2.ext x3).set (i:=r) r3
   have D3:=(D2.ext x3).set (v:=some w) (k:=r) hri
   unfold wN at g2
   cases zz:f (τ2.set r (some (.val ds'[n]))) k2 with
   |none=>rw[zz] at g2;cases g2
   |some p=>
    obtain⟨τ3,k3⟩:=p
    rw[zz] at g2
    exact⟨B,Z,F3,_,k2,dp',τ3,k3,R3,v2.set r _,D3,zz,fun σ' F' H'' ff RR vv DD=>⟨F',τ3,k3,x3.ff.trans ff,RR,vv,DD,g2⟩⟩
  ·have e:n=ds'.length:=by lia
   subst e
   rw[drop_length] at g2
   cases g2
   refine .inl ⟨i1 (by simp),?_⟩
   exact⟨_,D2.sl,dp',kse,F2,rfl,R2.rv.fh,D2.dh,z4.1,z4.2,fun Da F' H' x r=>h _ F' H' (R2.ext x).out r⟩
end
section
variable{τ:DS}{fa fb fc fe fi:FE}{fs:FA}{op:D→D→Rs D}{d x y:D}{i j k:Int}{n m:Nat}
noncomputable def getV:Option (Option Sl)→Rs D
 | some (some (.val d))=>.ok d
 |_=>.no
noncomputable def VH:Option (Option Sl)→Rs (List D)
 | some (some (.own d))=>.ok d
 |_=>.no
@[simp] theorem zE:getV (some (some (.val d)))=.ok d:=rfl
@[simp] theorem yX{ds:List D}:VH (some (some (.own ds)))=.ok ds:=rfl
theorem zK:ze n τ=getV τ[n]?:=rfl
theorem wL:jf τ n=VH τ[n]?:=rfl
theorem yG:eC d τ=.ok d:=rfl
theorem yf:eOp op fa fb τ=(fa τ).bind fun x=>(fb τ).bind fun y=>op x y:=rfl
theorem zO:zj τ=.ok []:=rfl
theorem zA:za fa fs τ=(fa τ).bind fun x=>(fs τ).bind fun r=>.ok (x::r):=rfl
theorem WL:vJ fs τ=(fs τ).bind fun ds=>if ds.length≤sizeLine then .ok (.lst ds) else .no:=rfl
theorem JF:wO fs τ=(fs τ).bind fun ds=>if ds.length≤sizeLine then .ok (.tup ds) else .no:=rfl
theorem yz{g:List D→Rs D}:zr g fs τ=(fs τ).bind fun ds=>Qf (g ds):=rfl
theorem wq{g:List D→Rs D}:yZ g fs τ=(fs τ).bind g:=rfl
theorem MA{g:FT}:eIf g fa fb τ=(g τ).bind fun b=>if b=true then fa τ else fb τ:=rfl
theorem JH:MC fa fb τ=(fa τ).bind fun x=>(Zd x).bind fun b=>if b=true then fb τ else .ok x:=rfl
theorem Mz:eOr fa fb τ=(fa τ).bind fun x=>(Zd x).bind fun b=>if b=true then .ok x else fb τ:=rfl
noncomputable def boolOf:D→Rs Bool
 |.bl b=>.ok b
 |_=>.no
@[simp] theorem zV{b:Bool}:boolOf (.bl b)=.ok b:=rfl
theorem xL:FD.tB fe τ=(fe τ).bind boolOf:=rfl
theorem wB:ux fe τ=(fe τ).bind Zd:=rfl
theorem wC{f g:FT}:wl f g τ=(f τ).bind fun b=>if b=true then g τ else .ok false:=rfl
theorem uy{f g:FT}:WV f g τ=(f τ).bind fun b=>if b=true then .ok true else g τ:=rfl
theorem MX{f:FT}:WW f τ=(f τ).bind fun b=>.ok (!b):=rfl
theorem JG{T:String}{g:D→List D→Rs D}:Y5 T g fa τ=(fa τ).bind fun d=>if Xq T d=true then g d [] else .no:=rfl
theorem WK{fl fh:FO}:eSl fe fl fh τ=(fe τ).bind fun d=>(fl τ).bind fun l=>(fh τ).bind fun u=>slD d l u:=rfl
theorem Vm:vQ τ=.ok none:=rfl
noncomputable def UU:D→Rs (Option Int)
 |.int i=>.ok (some i)
 |_=>.no
@[simp] theorem W0:UU (.int i)=.ok (some i):=rfl
theorem Vk:wn fe τ=(fe τ).bind UU:=rfl
noncomputable def Fl.thn(r:Fl)(g:FS):Fl:=match r with
 |.nx τ=>g τ
 |r=>r
@[simp] theorem yh{g:FS}:(Fl.nx τ).thn g=g τ:=rfl
@[simp] theorem Ze{g:FS}:(Fl.rt d).thn g=.rt d:=rfl
theorem zP{f g:FS}:zS f g τ=(f τ).thn g:=rfl
theorem yb:y3 n fe τ=Fl.of (fe τ) fun d=>.nx (τ.set n (some (.val d))):=rfl
theorem wJ:vN n fs τ=Fl.of (fs τ) fun ds=>.nx (τ.set n (some (.own ds))):=rfl
theorem yw{g:FT}{f h:FS}:sIf g f h τ=Fl.of (g τ) fun b=>if b=true then f τ else h τ:=rfl
theorem zZ:yK fe τ=Fl.of (fe τ) fun d=>.rt d:=rfl
theorem wK:ul n τ=Fl.of (jf τ n) fun ds=>.rt (.lst ds):=rfl
theorem zU:yj τ=.nx τ:=rfl
theorem vY{set:FG}{body:FS}:ut fs set body τ=Fl.of (fs τ) fun ds=>y7 set body ds τ:=rfl
@[simp] theorem zT:YW (.rt d)=.ok d:=rfl
@[simp] theorem xz:Qf (.ok d)=.ok d:=rfl
@[simp] theorem xT:zW (.int i) (.int j)=.ok (.int (i+j)):=rfl
theorem UI{a b:Str}(h:a.length+b.length≤sizeLine):zW (.str a) (.str b)=.ok (.str (a++b)):=if_pos h
@[simp] theorem vD:jL (.int i) (.int j)=.ok (.int (i-j)):=rfl
theorem uE(h:(-(18446744073709551616)<i∧i<18446744073709551616)∨(-(18446744073709551616)<j∧j<18446744073709551616)):uF (.int i) (.int j)=.ok (.int (i*j)):=if_pos h
theorem YF(h:0<j):WB (.int i) (.int j)=.ok (.int (i%j)):=by
 show(if decide (0<j)=true then _ else _)=_
 rw[if_pos (by simpa using h)]
theorem Yb(h:0<j∧j<1073741824):YZ (.int i) (.int j)=.ok (.int (i / j)):=by
 show(if decide (0<j∧j<1073741824)=true then _ else _)=_
 rw[if_pos (by simpa using h)]
@[simp] theorem Vr:ltI (.int i) (.int j)=.ok (.bl (decide (i<j))):=rfl
@[simp] theorem JD:gtD (.int i) (.int j)=.ok (.bl (decide (j<i))):=rfl
@[simp] theorem up:eqD (.int i) (.int j)=.ok (.bl (i==j)):=rfl
@[simp] theorem Mx{a b:Str}:eqD (.str a) (.str b)=.ok (.bl (a==b)):=rfl
@[simp] theorem ZM{a b:Str}:inD (.str a) (.str b)=.ok (.bl (WX a b)):=rfl
theorem wd(c:Nat)(x:Str):WX ⟨#[c]⟩ x=decide (c∈x.cps.toList):=StrLaws.found_one x c
@[simp] theorem G2{ns:List Int}:xj [.scr ns]=.ok (.int ns.length):=rfl
@[simp] theorem uH{ds:List D}:xj [.lst ds]=.ok (.int ds.length):=rfl
theorem Vv{a:Str}(h:a.length≤sizeLine):xj [.str a]=.ok (.int a.length):=if_pos h
theorem Lh{ns:List Int}{a:Int}(h:atI ns k=some a):ixD (.scr ns) (.int k)=.ok (.int a):=by
 show(match atI ns k with|some d=>Rs.ok (D.int d) | none=>.no)=_
 rw[h]
theorem WF{ds:List D}{a:D}(h:atI ds k=some a):ixD (.lst ds) (.int k)=.ok a:=by
 show(match atI ds k with|some d=>Rs.ok d|none=>.no)=_
 rw[h]
theorem Z8{a:Str}{c:Nat}(h:atI a.cps.toList k=some c)(hz:a.length≤sizeLine):ixD (.str a) (.int k)=.ok (zD c):=by
 show(match atI a.cps.toList k with|some c=>if a.length≤sizeLine then Rs.ok (D.str ⟨#[c]⟩) else .no|none=>.no)=_
 rw[h]
 exact if_pos hz
theorem ZB{α:Type}{xs:List α}{a:α}(h0:0≤k)(h:xs[k.toNat]?=some a):atI xs k=some a:=by
 have:=JP (j:=k.toNat) h
 rwa [Int.toNat_of_nonneg h0] at this
@[simp] theorem vj{b:Bool}:Zd (.bl b)=.ok b:=rfl
theorem QT{a:Str}(h:a.length≤sizeLine):Zd (.str a)=.ok ((a.length:Int) != 0):=if_pos h
theorem yc{b:FS}{ds:List D}:xG n b ds=YW (b (zX n ds)):=rfl
end
theorem Uy(l:List PyData):PyData.eqvAll l []=l.isEmpty:=by cases l <;> simp[PyData.eqvAll]
theorem TW(ns:List Int):okD (.scr ns)=true:=by
 have c:∀l:List Int,PyData.canLayAll0 (l.map PyData.int)=true:=fun l=>by
  induction l with
  |nil=>rfl
  |cons a r ih=>simp[PyData.canLayAll0,PyData.canLay0,ih]
 have d:∀l:List Int,PyData.depthAll (l.map PyData.int)=0:=fun l=>by
  induction l with
  |nil=>rfl
  |cons a r ih=>simp[PyData.depthAll,PyData.depth,ih]
 simp[okD,xQ,xJ,PyData.canLay0,PyData.depth,c,d]
theorem VN(ns:List Int):eqD (.scr ns) (.lst [])=.ok (.bl ns.isEmpty):=by
 have o2:okD (.lst [])=true:=by decide
 have:wT (.scr ns) (.lst [])=ns.isEmpty:=by
  simp only[wT,xJ,toPys,PyData.eqv,Uy]
  cases ns <;> rfl
 simp only[eqD,TW,o2,this,and_self,if_true]
end FD
set_option Elab.async false
set_option linter.all false
set_option maxRecDepth 100000
namespace Law
open PySem PySem.Spec PyProof.Rows L2 FD
instance tabs:FD.Tabs:=⟨[(160,112,28,("in_order" : Str) ++ ".<locals>." ++ "<lambda>")],fun c f=>(c == "Sieve" && f == "counts")⟩
noncomputable def ZS:FS:=(zS (sIf (tB (eOp eqD (ze 0) (vJ zj))) (yK (eOp uF (eC (.int 7)) (ze 1))) yj)
  (yK (eOp zW (eOp ixD (ze 0) (eOp WB (ze 1) (yZ xj (za (ze 0) zj)))) (eOp uF (eC (.int 6553)) (eOp YZ (ze 1) (yZ xj (za (ze 0) zj)))))))
noncomputable def wg(ds:List D):Rs D:=xG 2 ZS ds
noncomputable def Za:FS:=(zS (y3 3 (eOp WB (eOp zW (eOp uF (eOp WB (zr wg (za (ze 0) (za (ze 1) zj))) (eC (.int 2147483563))) (eC (.int 69069))) (eOp uF (eC (.int 104723)) (eOp zW (ze 1) (eC (.int 1))))) (eC (.int 2147483563))))
  (zS (y3 3 (eOp WB (eOp zW (eOp uF (ze 3) (ze 3)) (eOp YZ (ze 3) (eC (.int 3)))) (eC (.int 2147483399))))
  (yK (eOp WB (eOp YZ (eOp WB (eOp zW (eOp uF (ze 3) (ze 3)) (eOp YZ (ze 3) (eC (.int 7)))) (eC (.int 2147483647))) (eC (.int 11))) (ze 2)))))
noncomputable def zv(ds:List D):Rs D:=xG 4 Za ds
noncomputable def ZQ:FS:=(zS (y3 2 (eC (.str "")))
  (zS (ut (wM (za (eOp zW (eC (.int 1)) (zr zv (za (ze 0) (za (ze 1) (za (eC (.int 10)) zj))))) zj)) (gNm 3) (y3 2 (eOp zW (ze 2) (eOp ixD (eC (.str "abcabABCab1_-./xyz")) (zr zv (za (ze 0) (za (eOp zW (eOp zW (ze 1) (eC (.int 1))) (ze 3)) (za (eC (.int 18)) zj))))))))
  (yK (ze 2))))
noncomputable def xl(ds:List D):Rs D:=xG 4 ZQ ds
noncomputable def uh:FS:=(zS (vN 3 (xI 1 [0,1] (wM (za (zr zv (za (ze 0) (za (ze 1) (za (eOp zW (ze 2) (eC (.int 1))) zj)))) zj)) (gNm 0) (fun _=>.ok true) (zr xl (za (ze 1) (za (eOp zW (eOp zW (ze 2) (eC (.int 1))) (eOp uF (eC (.int 12)) (ze 0))) zj)))))
  (zS (sIf (wl (tB (eOp gtD (j4 3) (eC (.int 1)))) (tB (eOp eqD (zr zv (za (ze 0) (za (eOp zW (ze 1) (eC (.int 12))) (za (eC (.int 5)) zj)))) (eC (.int 0))))) (J2 3 (eC (.int 0)) (QA 3 (wP (eC (.int 1))))) yj)
  (ul 3)))
noncomputable def xC(ds:List D):Rs D:=xG 4 uh ds
noncomputable def ZR:FS:=(yK (eOp inD (ze 0) (eC (.str "_-./"))))
noncomputable def xm(ds:List D):Rs D:=xG 1 ZR ds
noncomputable def j9:FS:=(zS (y3 4 (eC (.str "")))
  (zS (y3 5 (eC (.int 0)))
  (zS (ut (wM (za (zr zv (za (ze 0) (za (ze 1) (za (eOp zW (ze 3) (eC (.int 1))) zj)))) zj)) (gNm 6) (zS (y3 5 (yZ jW (za (eOp jL (yZ xj (za (ze 2) zj)) (eC (.int 1))) (za (eOp zW (ze 5) (zr zv (za (ze 0) (za (eOp zW (eOp zW (ze 1) (eC (.int 1))) (eOp uF (eC (.int 3)) (ze 6))) (za (eC (.int 3)) zj))))) zj))))
  (zS (y3 7 (Y5 "str" loD (eOr (eSl (ze 2) (wn (ze 5)) (wn (eOp zW (ze 5) (eC (.int 1))))) (eC (.str "a")))))
  (zS (y3 5 (eOp zW (ze 5) (eC (.int 1))))
  (zS (sIf (tB (eOp eqD (zr zv (za (ze 0) (za (eOp zW (eOp zW (ze 1) (eC (.int 2))) (eOp uF (eC (.int 3)) (ze 6))) (za (eC (.int 5)) zj)))) (eC (.int 0)))) (y3 7 (eOp ixD (eC (.str "abAB1c")) (zr zv (za (ze 0) (za (eOp zW (eOp zW (ze 1) (eC (.int 3))) (eOp uF (eC (.int 3)) (ze 6))) (za (eC (.int 6)) zj)))))) yj)
  (sIf (WW (ux (zr xm (za (ze 7) zj)))) (y3 4 (eOp zW (ze 4) (ze 7))) yj))))))
  (yK (ze 4)))))
noncomputable def xB(ds:List D):Rs D:=xG 8 j9 ds
noncomputable def jj:FS:=(M8 1 (YU (wb (ze 0)) 2 (je (ze 2))))
noncomputable def yd(ds:List D):Rs D:=xG 3 jj ds
noncomputable def vV:FS:=(Ta 0 "Sieve" "counts" (xI 1 [] (wb (ze 1)) (gNm 0) (fun _=>.ok true) (zr yd (za (ze 0) zj))))
noncomputable def yn(fs:Fs)(ds:List D):Rs (D×Fs):=W9 2 0 "Sieve" vV fs ds
noncomputable def jF:FS:=(yK (Y4 [0] (ze 1) (wO (za (wP (eOp ixD (ze 0) (eC (.int 0)))) (za (yZ xj (za (eOp ixD (ze 1) (eOp ixD (ze 0) (eC (.int 1)))) zj)) (za (eOp ixD (ze 0) (eC (.int 1))) zj))))))
noncomputable def xR(ds:List D):Rs D:=xG 2 jF ds
noncomputable def ug:FS:=(yK (eSl (zr xR (za (ze 0) (za (ze 1) zj))) vQ (wn (yZ YI (za (ze 2) (za (eC (.int 0)) zj))))))
noncomputable def y4(ds:List D):Rs D:=xG 3 ug ds
noncomputable def vh:FS:=(zS (sIf (tB (eOp eqD (ze 1) (eC (.int 0)))) (yK (eC (.int 8))) yj)
  (zS (y3 2 (eOp ixD (ze 0) (eOp jL (ze 1) (eC (.int 1)))))
  (zS (sIf (tB (eOp inD (ze 2) (eC (.str "_-./")))) (yK (eC (.int 6))) yj)
  (zS (sIf (wl (tB (eOp inD (eOp ixD (ze 0) (ze 1)) (eC (.str "ABCDEFGHIJKLMNOPQRSTUVWXYZ")))) (WV (tB (eOp inD (ze 2) (eC (.str "abcdefghijklmnopqrstuvwxyz")))) (tB (eOp inD (ze 2) (eC (.str "0123456789")))))) (yK (eC (.int 5))) yj)
  (yK (eC (.int 0)))))))
noncomputable def yB(ds:List D):Rs D:=xG 3 vh ds
noncomputable def j7:FS:=(zS (y3 3 (eIf (tB (eOp eqD (eOp ixD (ze 1) (ze 2)) (ze 0))) (eC (.int 1)) (eC (.int 0))))
  (yK (eOp zW (eOp zW (eC (.int 10)) (zr yB (za (ze 1) (za (ze 2) zj)))) (ze 3))))
noncomputable def yx(ds:List D):Rs D:=xG 4 j7 ds
noncomputable def JO:FS:=(yK (eOr (eOp eqD (ze 0) (ze 1)) (MC (eOp inD (ze 0) (eC (.str "abcdefghijklmnopqrstuvwxyz"))) (eOp eqD (Y5 "str" upD (ze 0)) (ze 1)))))
noncomputable def xH(ds:List D):Rs D:=xG 2 JO ds
noncomputable def vA:FS:=(yK (fun τ=>((xI 1 [0,1] (wM (za (yZ xj (za (ze 1) zj)) zj)) (gNm 0) (ux (zr xH (za (ze 1) (za (eOp ixD (ze 2) (ze 0)) zj)))) (wO (za (zr yx (za (ze 1) (za (ze 2) (za (ze 0) zj)))) (za (vJ (za (ze 0) zj)) zj)))) τ).bind fun ds=>.ok (.lst ds)))
noncomputable def yi(ds:List D):Rs D:=xG 2 vA ds
noncomputable def ur:FS:=(zS (y3 1 (eC .non))
  (zS (ut (wb (ze 0)) (gNm 2) (sIf (WV (tB (eOp isD (ze 1) (eC .non))) (tB (eOp gtD (eOp ixD (ze 2) (eC (.int 0))) (eOp ixD (ze 1) (eC (.int 0)))))) (y3 1 (ze 2)) yj))
  (yK (ze 1))))
noncomputable def zR(ds:List D):Rs D:=xG 3 ur ds
noncomputable def jk:FS:=(zS (y3 2 (eOp jL (eOp jL (ze 1) (ze 0)) (eC (.int 1))))
  (zS (sIf (tB (eOp eqD (ze 2) (eC (.int 0)))) (yK (eC (.int 7))) yj)
  (yK (wP (yZ jW (za (ze 2) (za (eC (.int 5)) zj)))))))
noncomputable def xh(ds:List D):Rs D:=xG 3 jk ds
noncomputable def uQ:FS:=(yK (fun τ=>((xI 1 [0] (wb (ze 1)) (gNm 0) (tB (eOp gtD (eOp ixD (eOp ixD (ze 0) (eC (.int 1))) (eC (.int 0))) (ze 1))) (wO (za (eOp zW (eOp ixD (ze 0) (eC (.int 0))) (zr xh (za (ze 1) (za (eOp ixD (eOp ixD (ze 0) (eC (.int 1))) (eC (.int 0))) zj)))) (za (eOp ixD (ze 0) (eC (.int 1))) zj)))) τ).bind fun ds=>.ok (.lst ds)))
noncomputable def yE(ds:List D):Rs D:=xG 2 uQ ds
noncomputable def vf:FS:=(zS (vN 3 (fun τ=>(zj τ).bind fun ds=>if ds.length≤sizeLine then .ok ds else .no))
  (zS (ut (wM (za (yZ xj (za (ze 1) zj)) zj)) (gNm 4) (sIf (ux (zr xH (za (ze 0) (za (eOp ixD (ze 1) (ze 4)) zj)))) (zS (y3 5 (zr zR (za (zr yE (za (ze 4) (za (ze 2) zj))) zj)))
  (sIf (tB (eOp ub (ze 5) (eC .non))) (Xg 3 (wO (za (eOp zW (zr yx (za (ze 0) (za (ze 1) (za (ze 4) zj)))) (eOp ixD (ze 5) (eC (.int 0)))) (za (eOp zW (vJ (za (ze 4) zj)) (eOp ixD (ze 5) (eC (.int 1)))) zj)))) yj)) yj))
  (ul 3)))
noncomputable def yW(ds:List D):Rs D:=xG 6 vf ds
noncomputable def jl:FS:=(yK (wP (yZ jW (za (ze 0) (za (eC (.int 3)) zj)))))
noncomputable def yO(ds:List D):Rs D:=xG 1 jl ds
noncomputable def UF:FS:=(zS (sIf (tB (eOp eqD (yZ xj (za (ze 0) zj)) (eC (.int 0)))) (yK (wO (za (eC (.int 0)) (za (vJ zj) zj)))) yj)
  (zS (y3 2 (zr yi (za (eOp ixD (ze 0) (wP (eC (.int 1)))) (za (ze 1) zj))))
  (zS (ut (Qt (za (eOp jL (yZ xj (za (ze 0) zj)) (eC (.int 2))) (za (wP (eC (.int 1))) (za (wP (eC (.int 1))) zj)))) (gNm 3) (y3 2 (zr yW (za (eOp ixD (ze 0) (ze 3)) (za (ze 1) (za (ze 2) zj))))))
  (yK (zr zR (za (fun τ=>((xI 1 [] (wb (ze 2)) (gNm 0) (fun _=>.ok true) (wO (za (eOp zW (eOp ixD (ze 0) (eC (.int 0))) (zr yO (za (eOp ixD (eOp ixD (ze 0) (eC (.int 1))) (eC (.int 0))) zj))) (za (eOp ixD (ze 0) (eC (.int 1))) zj)))) τ).bind fun ds=>.ok (.lst ds)) zj))))))
noncomputable def vH(ds:List D):Rs D:=xG 4 UF ds
noncomputable def vg:FS:=(zS (vN 3 (fun τ=>(zj τ).bind fun ds=>if ds.length≤sizeLine then .ok ds else .no))
  (zS (ut (wb (ze 2)) (gNm 4) (zS (y3 5 (zr vH (za (ze 1) (za (eOp ixD (ze 0) (ze 4)) zj))))
  (sIf (tB (eOp ub (ze 5) (eC .non))) (Xg 3 (wO (za (eOp ixD (ze 5) (eC (.int 0))) (za (ze 4) zj)))) yj)))
  (ul 3)))
noncomputable def yF(ds:List D):Rs D:=xG 6 vg ds
noncomputable def jG:FS:=(yK (zr yF (za (ze 0) (za (ze 1) (za (fun τ=>((uo (wM (za (yZ xj (za (ze 0) zj)) zj))) τ).bind fun ds=>.ok (.lst ds)) zj)))))
noncomputable def xS(ds:List D):Rs D:=xG 2 jG ds
noncomputable def WP:FS:=(yK (zr y4 (za (ze 0) (za (zr xS (za (ze 0) (za (ze 1) zj))) (za (ze 2) zj)))))
noncomputable def wo(ds:List D):Rs D:=xG 3 WP ds
noncomputable def vB:FS:=(zS (vN 2 (fun τ=>(zj τ).bind fun ds=>if ds.length≤sizeLine then .ok ds else .no))
  (zS (ut (wM (za (yZ xj (za (ze 1) zj)) zj)) (gNm 3) (sIf (wl (tB (eOp ltI (j4 2) (yZ xj (za (ze 0) zj)))) (ux (zr xH (za (eOp ixD (ze 0) (j4 2)) (za (eOp ixD (ze 1) (ze 3)) zj))))) (Xg 2 (ze 3)) yj))
  (ul 2)))
noncomputable def yI(ds:List D):Rs D:=xG 4 vB ds
noncomputable def MM:FS:=(yK (eOp eqD (yZ xj (za (zr yI (za (ze 0) (za (ze 1) zj))) zj)) (yZ xj (za (ze 0) zj))))
noncomputable def uG(ds:List D):Rs D:=xG 2 MM ds
noncomputable def vy:FS:=(yK (eOp zW (jD (ze 0) (Y5 "str" loD (ze 1)) (eC (.int 0))) (jD (ze 0) (Y5 "str" upD (ze 1)) (eC (.int 0)))))
noncomputable def z8(ds:List D):Rs D:=xG 2 vy ds
noncomputable def j8:FS:=(zS (ut (YS (ze 1)) (gNm 2) (zS (sIf (wl (tB (eOp x9 (ze 2) (eC (.str "abcdefghijklmnopqrstuvwxyz")))) (tB (eOp ltI (jD (ze 0) (ze 2) (eC (.int 0))) (MB (ze 1) (ze 2))))) (yK (eC (.bl false))) yj)
  (sIf (wl (tB (eOp x9 (ze 2) (eC (.str "0123456789")))) (tB (eOp ltI (zr z8 (za (ze 0) (za (ze 2) zj))) (zr z8 (za (ze 1) (za (ze 2) zj)))))) (yK (eC (.bl false))) yj)))
  (yK (eC (.bl true))))
noncomputable def xA(ds:List D):Rs D:=xG 3 j8 ds
noncomputable def Zb:FS:=(zS (y3 2 (zr yd (za (ze 1) zj)))
  (yK (fun τ=>((xI 2 [2] (Ll 0 "Sieve" "counts") (gPr 0 1) (ux (zr xA (za (ze 1) (za (ze 2) zj)))) (ze 0)) τ).bind fun ds=>.ok (.lst ds))))
noncomputable def zQ(fs:Fs)(ds:List D):Rs D:=Ua 3 0 "Sieve" Zb fs ds
noncomputable def ZT:FS:=(zS (UW 0 "Sieve" "counts" (zr yd (za (ze 1) zj)))
  (W7 (eOp jL (VO 0 "Sieve" "counts") (eC (.int 1)))))
noncomputable def xn(fs:Fs)(ds:List D):Rs (D×Fs):=W9 2 0 "Sieve" ZT fs ds
noncomputable def jm:FS:=(Wm 1 0 "Sieve" "counts" 2 (YU (YS (ze 2)) 3 (je (ze 3))))
noncomputable def yr(fs:Fs)(ds:List D):Rs D:=Ua 4 0 "Sieve" jm fs ds
noncomputable def L6:FS:=(zS (y3 1 (zr xC (za (ze 0) (za (eC (.int 0)) (za (eC (.int 5)) zj)))))
  (zS (y3 2 (zr xB (za (ze 0) (za (eC (.int 80)) (za (eOp ixD (eOp zW (ze 1) (vJ (za (eC (.str "abc")) zj))) (zr zv (za (ze 0) (za (eC (.int 79)) (za (eOp zW (yZ xj (za (ze 1) zj)) (eC (.int 1))) zj))))) (za (eC (.int 4)) zj))))))
  (zS (ZC 3 "Sieve" yn (za (ze 1) zj))
  (zS (y3 4 (yY 3 "Sieve" "left" zQ (za (ze 2) zj)))
  (zS (sIf (tB (eOp neD (fun τ=>((xI 2 [2,4] (iEn (za (ze 1) zj)) (gPr 0 1) (wl (ux (zr uG (za (ze 2) (za (ze 1) zj)))) (tB (eOp x9 (ze 0) (ze 3)))) (ze 0)) τ).bind fun ds=>.ok (.lst ds)) (vJ zj))) (yK (eC (.bl false))) yj)
  (zS (sIf (WV (tB (eOp neD (yY 3 "Sieve" "left" zQ (za (My (ze 2)) zj)) (ze 4))) (tB (eOp neD (yY 3 "Sieve" "left" zQ (za (eOp zW (eSl (ze 2) (wn (eC (.int 1))) vQ) (eSl (ze 2) vQ (wn (eC (.int 1))))) zj)) (ze 4)))) (yK (eC (.bl false))) yj)
  (zS (sIf (tB (eOp neD (yY 3 "Sieve" "left" zQ (za (eC (.str "")) zj)) (fun τ=>((uo (wM (za (yZ xj (za (ze 1) zj)) zj))) τ).bind fun ds=>.ok (.lst ds)))) (yK (eC (.bl false))) yj)
  (zS (y3 5 (yY 3 "Sieve" "left" zQ (za (eOp zW (ze 2) (eOp ixD (eC (.str "abc1B")) (zr zv (za (ze 0) (za (eC (.int 95)) (za (eC (.int 5)) zj)))))) zj)))
  (zS (sIf (tB (eOp neD (fun τ=>((xI 1 [4] (wb (ze 5)) (gNm 0) (tB (eOp x9 (ze 0) (ze 1))) (ze 0)) τ).bind fun ds=>.ok (.lst ds)) (vJ zj))) (yK (eC (.bl false))) yj)
  (zS (y3 6 fun τ=>((xI 2 [4] (wb (zr wo (za (fun τ=>((xI 1 [1] (wb (ze 4)) (gNm 0) (fun _=>.ok true) (eOp ixD (ze 1) (ze 0))) τ).bind fun ds=>.ok (.lst ds)) (za (ze 2) (za (eC (.int 99)) zj))))) (gPr 0 1) (fun _=>.ok true) (wO (za (ze 0) (za (eOp ixD (ze 2) (ze 1)) zj)))) τ).bind fun ds=>.ok (.lst ds))
  (zS (sIf (tB (eOp neD (ze 6) (zr wo (za (ze 1) (za (ze 2) (za (eC (.int 99)) zj)))))) (yK (eC (.bl false))) yj)
  (zS (ZC 7 "Sieve" yn (za (vJ zj) zj))
  (zS (M9 (oB (oOp neD (XO 1 [7] 7 1 "Sieve" (wb (ze 1)) (gNm 0) (jg 1 "Sieve" "add" xn (za (ze 0) zj))) (fun τ=>((uo (wM (za (yZ xj (za (ze 1) zj)) zj))) τ).bind fun ds=>.ok (.lst ds)))) (yK (eC (.bl false))) yj)
  (yK (MC (eOp eqD (yY 7 "Sieve" "left" zQ (za (ze 2) zj)) (ze 4)) (eOp eqD (yY 7 "Sieve" "signs" yr zj) (yY 3 "Sieve" "signs" yr zj)))))))))))))))))
noncomputable def Jk(ds:List D):Rs D:=xG 8 L6 ds
noncomputable def ZP(ns:List Int)(k:Int):Int:=if ns=[] then 7*k else ns.getD (k%ns.length).toNat 0+6553*(k / ns.length)
theorem zL:sizeLine=16777216:=sizeLine_eq
theorem Lz(ns:List Int)(k:Int)(h63:ns.length≤63)(h0:0≤k):wg [.scr ns,.int k]=.ok (.int (ZP ns k)):=by
 have st:zX 2 [D.scr ns,.int k]=[some (.val (.scr ns)),some (.val (.int k))]:=rfl
 unfold wg ZS
 rw[yc,st]
 simp only[zP,yw,xL,yf,zK,WL,zO,getElem?_cons_zero,zE,Rs.bind_ok,length_nil,zero_le,if_true,VN,zV,Fl.of_ok]
 cases ns with
 |nil=>
  simp only[List.isEmpty_nil,if_true,zZ,yf,yG,zK,getElem?_cons_zero,getElem?_cons_succ,zE,Rs.bind_ok,uE (i:=7) (j:=k) (.inl ⟨by decide,by decide⟩),Fl.of_ok,Ze,zT,ZP]
 |cons a r=>
  have hl:(0:Int)<((a::r).length:Int):=by simp only[length_cons];lia
  have hm0:=emod_nonneg k (show((a::r).length:Int)≠0 by lia)
  have hm1:=Int.emod_lt_of_pos k hl
  have hat:atI (a::r) (k%((a::r).length:Int))=some ((a::r).getD (k%((a::r).length:Int)).toNat 0):=by
   refine ZB hm0 ?_
   have:(k%((a::r).length:Int)).toNat<(a::r).length:=by lia
   rw[getD_eq_getElem?_getD,getElem?_eq_getElem this];rfl
  have hdv:YZ (.int k) (.int ((a::r).length:Int))=.ok (.int (k / ((a::r).length:Int))):=Yb ⟨hl,by lia⟩
  have hmd:WB (.int k) (.int ((a::r).length:Int))=.ok (.int (k%((a::r).length:Int))):=YF hl
  have hml:=uE (i:=6553) (j:=k / ((a::r).length:Int)) (.inl ⟨by decide,by decide⟩)
  simp only[List.isEmpty_cons,Bool.false_eq_true,if_false,zU,yh,zZ,yf,yG,zK,wq,zA,zO,getElem?_cons_zero,getElem?_cons_succ,zE,Rs.bind_ok,G2,hmd,hdv,hml,Lh hat,xT,Fl.of_ok,zT]
  simp[ZP]
noncomputable def d1(ns:List Int)(k:Int):Int:=(ZP ns k%2147483563*69069+104723*(k+1))%2147483563
noncomputable def d2(ns:List Int)(k:Int):Int:=(d1 ns k*d1 ns k+d1 ns k / 3)%2147483399
noncomputable def xV(ns:List Int)(k m:Int):Int:=(d2 ns k*d2 ns k+d2 ns k / 7)%2147483647 / 11%m
theorem wG(ns:List Int)(k m:Int)(h63:ns.length≤63)(h0:0≤k)(hk:k<1000000)(hm:0<m):zv [.scr ns,.int k,.int m]=.ok (.int (xV ns k m)):=by
 have st:zX 4 [D.scr ns,.int k,.int m]=[some (.val (.scr ns)),some (.val (.int k)),some (.val (.int m)),none]:=rfl
 have b1:0≤d1 ns k∧d1 ns k<2147483563:=⟨emod_nonneg _ (by decide),Int.emod_lt_of_pos _ (by decide)⟩
 have b2:0≤d2 ns k∧d2 ns k<2147483399:=⟨emod_nonneg _ (by decide),Int.emod_lt_of_pos _ (by decide)⟩
 have c0:=Int.emod_lt_of_pos (ZP ns k) (show(0:Int)<2147483563 by decide)
 have c1:=emod_nonneg (ZP ns k) (show(2147483563:Int)≠0 by decide)
 have q1:=uE (i:=ZP ns k%2147483563) (j:=69069) (.inr ⟨by decide,by decide⟩)
 have q2:=uE (i:=104723) (j:=k+1) (.inl ⟨by decide,by decide⟩)
 have q3:=uE (i:=d1 ns k) (j:=d1 ns k) (.inl ⟨by lia,by lia⟩)
 have q4:=uE (i:=d2 ns k) (j:=d2 ns k) (.inl ⟨by lia,by lia⟩)
 have e1:(ZP ns k%2147483563*69069+104723*(k+1))%2147483563=d1 ns k:=rfl
 have e2:(d1 ns k*d1 ns k+d1 ns k / 3)%2147483399=d2 ns k:=rfl
 have m1:=fun i=>YF (i:=i) (j:=2147483563) (by decide)
 have m2:=fun i=>YF (i:=i) (j:=2147483399) (by decide)
 have m3:=fun i=>YF (i:=i) (j:=2147483647) (by decide)
 have m4:=fun i=>YF (i:=i) (j:=m) hm
 have f3:=fun i=>Yb (i:=i) (j:=3) ⟨by decide,by decide⟩
 have f7:=fun i=>Yb (i:=i) (j:=7) ⟨by decide,by decide⟩
 have f11:=fun i=>Yb (i:=i) (j:=11) ⟨by decide,by decide⟩
 unfold zv Za
 rw[yc,st]
 simp only[zP,yb,zZ,yf,zK,yG,yz,zA,zO,getElem?_cons_zero,getElem?_cons_succ,zE,Rs.bind_ok,Lz ns k h63 h0,xz,m1,q1,xT,q2,e1,Fl.of_ok,yh,set_cons_succ,set_cons_zero,q3,f3,m2,e2,q4,f7,m3,f11,m4,zT]
 rfl
theorem wH(ns:List Int)(k:Int){m:Int}(hm:0<m):0≤xV ns k m∧xV ns k m<m:=⟨emod_nonneg _ (by lia),Int.emod_lt_of_pos _ hm⟩
end Law
set_option Elab.async false
set_option linter.all false
namespace FD
open PySem PySem.Spec PyProof.Rows L2
theorem XV{set:FG}{body:FS}(f:Nat→D)(S:Nat→DS):∀(m j:Nat),(∀k,j≤k→k<j+m→∃τ1,set (f k) (S k)=.ok τ1∧body τ1=.nx (S (k+1)))→y7 set body ((List.range' j m).map f) (S j)=.nx (S (j+m)):=by
 intro l_
 induction l_ with
 |zero=>
  rintro j _
  exact rfl
 |succ m ih_=>
  rintro j h
  obtain⟨τ1,h1,h2⟩:=h j (le_refl _) (by lia)
  rw[range'_succ,map_cons,y7,h1,Fl.of_ok]
  simp only[h2]
  rw[ih_ (j+1) fun k hk hk2=>h k (by lia) (by lia)]
  congr 2;lia
theorem Ur{set:FG}{body:FS}(f:Nat→D)(S:Nat→DS)(n:Nat)(h:∀k,k<n→∃τ1,set (f k) (S k)=.ok τ1∧body τ1=.nx (S (k+1))):y7 set body ((List.range n).map f) (S 0)=.nx (S n):=by
 have:=XV f S n 0 fun k _ hk=>h k (by lia)
 rw[zero_add] at this
 rwa [range_eq_range']
theorem Wp{fs:FA}{τ:DS}{j:Int}(h:fs τ=.ok [.int j])(h1 : -(2 ^ 62)≤j)(h2:j<2 ^ 62):wM fs τ=.ok (jb 0 j.toNat):=by
 unfold wM
 rw[h]
 simp only[Rs.bind_ok,Uu]
 rw[if_pos ⟨h1,h2⟩]
theorem UQ(a:List Nat)(c:Nat):(⟨a.toArray⟩:Str)++(⟨#[c]⟩:Str)=⟨(a++[c]).toArray⟩:=by
 show Str.mk _=_
 simp
theorem jC{n:Nat}{d:D}{τ:DS}:gNm n d τ=.ok (τ.set n (some (.val d))):=rfl
end FD
namespace Law
open PySem PySem.Spec PyProof.Rows L2 FD
noncomputable def A18:List Nat:=[97,98,99,97,98,65,66,67,97,98,49,95,45,46,47,120,121,122]
noncomputable def XT(ns:List Int)(a:Int):Nat:=(1+xV ns a 10).toNat
noncomputable def GV(ns:List Int)(a:Int)(k:Nat):Nat:=A18.getD (xV ns (a+1+k) 18).toNat 0
noncomputable def vx(ns:List Int)(a:Int)(n:Nat):List Nat:=(List.range n).map (GV ns a)
theorem a18:("abcabABCab1_-./xyz" : Str).cps.toList=A18:=by decide +kernel
theorem T2(ns:List Int)(a:Int)(h63:ns.length≤63)(h0:0≤a)(ha:a<900000):xl [.scr ns,.int a]=.ok (.str ⟨(vx ns a (XT ns a)).toArray⟩):=by
 have st:zX 4 [D.scr ns,.int a]=[some (.val (.scr ns)),some (.val (.int a)),none,none]:=rfl
 have dl:=wH ns a (m:=10) (by decide)
 unfold xl ZQ
 rw[yc,st,zP,yb,yG,Fl.of_ok,yh,zP,vY]
 have r1:=Wp (fs:=za (eOp zW (eC (.int 1)) (zr zv (za (ze 0) (za (ze 1) (za (eC (.int 10)) zj))))) zj) (τ:=[some (.val (.scr ns)),some (.val (.int a)),some (.val (.str "")),none]) (j:=1+xV ns a 10)
  (by simp only[zA,zO,yf,yG,yz,zK,getElem?_cons_zero,getElem?_cons_succ,zE,Rs.bind_ok,wG ns a 10 h63 h0 (by lia) (by decide),xz,xT]) (by lia) (by lia)
 simp only[set_cons_succ,set_cons_zero]
 rw[r1,Fl.of_ok]
 let S:Nat→DS:=fun k=>[some (.val (.scr ns)),some (.val (.int a)),some (.val (.str ⟨(vx ns a k).toArray⟩)),if k=0 then none else some (.val (.int ((k:Int)-1)))]
 have s0:S 0=[some (.val (.scr ns)),some (.val (.int a)),some (.val (.str "")),none]:=by
  simp only[S,vx,List.range_zero,map_nil,if_true]
  rfl
 rw[← s0]
 have lp:=Ur (set:=gNm 3) (body:=(y3 2 (eOp zW (ze 2) (eOp ixD (eC (.str "abcabABCab1_-./xyz")) (zr zv (za (ze 0) (za (eOp zW (eOp zW (ze 1) (eC (.int 1))) (ze 3)) (za (eC (.int 18)) zj)))))))) (fun (k:Nat)=>D.int (0+k)) S (1+xV ns a 10).toNat fun k hk=>by
  refine⟨_,jC,?_⟩
  have hk':(k:Int)<20:=by lia
  have dk:=wH ns (a+1+(0+(k:Int))) (m:=18) (by decide)
  have hd:=wG ns (a+1+(0+(k:Int))) 18 h63 (by lia) (by lia) (by decide)
  have hix:=Z8 (a := "abcabABCab1_-./xyz") (k:=xV ns (a+1+(0+(k:Int))) 18) (c:=A18.getD (xV ns (a+1+(0+(k:Int))) 18).toNat 0) (ZB dk.1 (by
   rw[a18]
   have:(xV ns (a+1+(0+(k:Int))) 18).toNat<A18.length:=by
    have:A18.length=18:=rfl
    lia
   rw[getD_eq_getElem?_getD,getElem?_eq_getElem this];rfl)) (by decide +kernel)
  have hadd:=UI (a:=⟨(vx ns a k).toArray⟩) (b:=⟨#[A18.getD (xV ns (a+1+(0+(k:Int))) 18).toNat 0]⟩) (by
   show(vx ns a k).toArray.size+1≤sizeLine
   rw[zL,size_toArray]
   simp only[vx,length_map,length_range];lia)
  simp only[S,set_cons_succ,set_cons_zero,yb,yf,yG,yz,zA,zO,zK,getElem?_cons_zero,getElem?_cons_succ,zE,Rs.bind_ok,xT,hd,xz,hix,zD,hadd,Fl.of_ok,UQ]
  have e1:vx ns a k++[A18.getD (xV ns (a+1+(0+(k:Int))) 18).toNat 0]=vx ns a (k+1):=by
   simp only[vx,List.range_succ,map_append,map_cons,map_nil,GV,Int.zero_add]
  rw[e1]
  simp
 unfold jb
 rw[lp,yh]
 simp only[S,zZ,zK,getElem?_cons_zero,getElem?_cons_succ,zE,Fl.of_ok,zT]
 rfl
end Law
set_option Elab.async false
set_option linter.all false
namespace FD
open PySem PySem.Spec PyProof.Rows L2
theorem Vs{set:FG}{body:FS}(f:Nat→D)(I:Nat→DS→Prop):∀(m j:Nat) (τ:DS),I j τ→(∀k τ,j≤k→k<j+m→I k τ→∃τ1 τ2,set (f k) τ=.ok τ1∧body τ1=.nx τ2∧I (k+1) τ2)→∃τ',y7 set body ((List.range' j m).map f) τ=.nx τ'∧I (j+m) τ':=by
 intro l_
 induction l_ with
 |zero=>
  rintro j τ h _
  exact⟨τ,rfl,h⟩
 |succ m ih_=>
  rintro j τ h hs
  obtain⟨τ1,τ2,h1,h2,h3⟩:=hs j τ (le_refl _) (by lia) h
  obtain⟨τ',h4,h5⟩:=ih_ (j+1) τ2 h3 fun k τ hk hk2=>hs k τ (by lia) (by lia)
  refine⟨τ',?_,by rw[show j+(m+1)=j+1+m by lia];exact h5⟩
  rw[range'_succ,map_cons,y7,h1,Fl.of_ok]
  simp only[h2,h4]
theorem Zs{set:FG}{body:FS}(f:Nat→D)(I:Nat→DS→Prop)(n:Nat)(τ:DS)(h0:I 0 τ)(h:∀k τ,k<n→I k τ→∃τ1 τ2,set (f k) τ=.ok τ1∧body τ1=.nx τ2∧I (k+1) τ2):∃τ',y7 set body ((List.range n).map f) τ=.nx τ'∧I n τ':=by
 obtain⟨τ',h1,h2⟩:=Vs f I n 0 τ h0 fun k τ _ hk hi=>h k τ (by lia) hi
 rw[zero_add] at h2
 exact⟨τ',by rw[range_eq_range'];exact h1,h2⟩
end FD
namespace Law
open PySem PySem.Spec PyProof.Rows L2 FD
noncomputable def QS:List Nat:=[97,98,99,120,121,122,65,66,49]
noncomputable def MK:List Nat:=[95,45,46,47]
theorem Qh:("_-./" : Str).cps.toList=MK:=by decide +kernel
theorem T5(c:Nat):xm [zD c]=.ok (.bl (decide (c∈MK))):=by
 have st:zX 1 [zD c]=[some (.val (zD c))]:=rfl
 unfold xm ZR
 rw[yc,st]
 simp only[zZ,yf,zK,yG,getElem?_cons_zero,zE,Rs.bind_ok,zD,ZM,wd,Qh,Fl.of_ok,zT]
theorem Q0(x:List Nat){i j:Int}(h0:0≤i)(h1:i≤j)(h2:j≤x.length):Txt.slice (⟨x.toArray⟩:Str) (some i) (some j)=⟨((x.drop i.toNat).take (j-i).toNat).toArray⟩:=by
 have:=slice_closesL (x:=⟨x.toArray⟩) (i:=i) (j:=j) h0 h1 (by show j≤((x.toArray.size:Nat):Int);simpa using h2)
 exact eq_of_beq this
theorem JZ(x:List Nat)(p:Nat)(hp:p<x.length):Txt.slice (⟨x.toArray⟩:Str) (some (p:Int)) (some ((p:Int)+1))=⟨#[x[p]]⟩:=by
 rw[Q0 x (by lia) (by lia) (by lia)]
 have e1:((p:Int)+1-(p:Int)).toNat=1:=by lia
 have e2:((p:Int)).toNat=p:=by lia
 rw[e1,e2,drop_eq_getElem_cons hp]
 rfl
theorem Qi(c:Nat)(h:c<128):Txt.lower (⟨#[c]⟩:Str)=⟨#[lo1 c]⟩:=by
 rw[lower_ascii (x:=⟨#[c]⟩) (by intro d hd;have e:d=c:=(by simpa using hd);lia)]
 simp
noncomputable def NS:List Nat:=[97,98,99,65,66,67,49,95,45,46,47,120,121,122]
theorem Qg(ns:List Int)(a:Int)(k:Nat)(h:0≤a+1+k):GV ns a k∈NS:=by
 have d:=wH ns (a+1+k) (m:=18) (by decide)
 have hall:∀n,n<18→A18.getD n 0∈NS:=by decide
 exact hall _ (by lia)
noncomputable def S6:List Nat:=[97,98,65,66,49,99]
theorem s6_l:("abAB1c" : Str).cps.toList=S6:=by decide +kernel
theorem Jn:∀c∈NS,c<128∧(lo1 c∈QS∨lo1 c∈MK):=by decide
theorem Tb:∀n,n<6→S6.getD n 0∈QS:=by decide
set_option maxHeartbeats 1000000
noncomputable def Va:FS:=(zS (y3 5 (yZ jW (za (eOp jL (yZ xj (za (ze 2) zj)) (eC (.int 1))) (za (eOp zW (ze 5) (zr zv (za (ze 0) (za (eOp zW (eOp zW (ze 1) (eC (.int 1))) (eOp uF (eC (.int 3)) (ze 6))) (za (eC (.int 3)) zj))))) zj))))
  (zS (y3 7 (Y5 "str" loD (eOr (eSl (ze 2) (wn (ze 5)) (wn (eOp zW (ze 5) (eC (.int 1))))) (eC (.str "a")))))
  (zS (y3 5 (eOp zW (ze 5) (eC (.int 1))))
  (zS (sIf (FD.tB (eOp eqD (zr zv (za (ze 0) (za (eOp zW (eOp zW (ze 1) (eC (.int 2))) (eOp uF (eC (.int 3)) (ze 6))) (za (eC (.int 5)) zj)))) (eC (.int 0)))) (y3 7 (eOp ixD (eC (.str "abAB1c")) (zr zv (za (ze 0) (za (eOp zW (eOp zW (ze 1) (eC (.int 3))) (eOp uF (eC (.int 3)) (ze 6))) (za (eC (.int 6)) zj)))))) yj)
  (sIf (WW (ux (zr xm (za (ze 7) zj)))) (y3 4 (eOp zW (ze 4) (ze 7))) yj)))))
noncomputable def qSt(ns:List Int)(a:Int)(x:List Nat)(most:Int)(q:List Nat)(p:Int)(s1 s2:Option Sl):DS:=
 [some (.val (.scr ns)),some (.val (.int a)),some (.val (.str ⟨x.toArray⟩)),some (.val (.int most)),some (.val (.str ⟨q.toArray⟩)),some (.val (.int p)),s1,s2]
theorem Ub(ns:List Int)(a:Int)(x:List Nat)(most:Int)(q:List Nat)(p:Int)(k:Nat)(s2:Option Sl)(h63:ns.length≤63)(h0:0≤a)(ha:a<900000)(hk:k<100)(hx0:0<x.length)(hx1:x.length≤100)(hx:∀c∈x,c∈NS)(hq:q.length≤100)(hqs:∀c∈q,c∈QS)(hp:0≤p) :
  ∃q' p' s',Va (qSt ns a x most q p (some (.val (.int (0+k)))) s2)=.nx (qSt ns a x most q' p' (some (.val (.int (0+k)))) s')∧q'.length≤q.length+1∧(∀c∈q',c∈QS)∧0≤p':=by
 have hl:((⟨x.toArray⟩:Str).length:Int)=x.length:=by show((x.toArray.size:Nat):Int)=_;simp
 have hsz:(⟨x.toArray⟩:Str).length≤sizeLine:=by rw[zL];show x.toArray.size≤_;simp;lia
 have m3:=uE (i:=3) (j:=0+(k:Int)) (.inl ⟨by decide,by decide⟩)
 have g1:=wG ns (a+1+3*(0+(k:Int))) 3 h63 (by lia) (by lia) (by decide)
 have g2:=wG ns (a+2+3*(0+(k:Int))) 5 h63 (by lia) (by lia) (by decide)
 have g3:=wG ns (a+3+3*(0+(k:Int))) 6 h63 (by lia) (by lia) (by decide)
 have b1:=wH ns (a+1+3*(0+(k:Int))) (m:=3) (by decide)
 have b3:=wH ns (a+3+3*(0+(k:Int))) (m:=6) (by decide)
 generalize xV ns (a+1+3*(0+(k:Int))) 3=e1 at *
 generalize xV ns (a+2+3*(0+(k:Int))) 5=e2 at *
 generalize xV ns (a+3+3*(0+(k:Int))) 6=e3 at *
 obtain⟨n,hn,hmin⟩:∃n:Nat,n<x.length∧(if p+e1<(x.length:Int)-1 then p+e1 else (x.length:Int)-1)=(n:Int):=by
  by_cases h:p+e1<(x.length:Int)-1
  ·exact⟨(p+e1).toNat,by lia,by rw[if_pos h];lia⟩
  ·exact⟨x.length-1,by lia,by rw[if_neg h];lia⟩
 have hmn:jW [.int ((x.length:Int)-1),.int (p+e1)]=.ok (.int n):=by
  simp only[jW,Ut];rw[hmin]
 have hsl:slD (.str ⟨x.toArray⟩) (some (n:Int)) (some ((n:Int)+1))=.ok (.str ⟨#[x[n]]⟩):=by
  simp only[slD]
  rw[if_pos hsz,JZ x n hn]
 have hxn:=hx x[n] (getElem_mem hn)
 have hlo:loD (.str ⟨#[x[n]]⟩) []=.ok (.str ⟨#[lo1 x[n]]⟩):=by
  simp only[loD]
  rw[if_pos (by show 1≤5000000;decide),Qi _ (Jn _ hxn).1]
 have htr:Zd (.str ⟨#[x[n]]⟩)=.ok true:=by
  rw[QT (by rw[zL];show 1≤_;decide)];rfl
 have hix:ixD (.str "abAB1c") (.int e3)=.ok (zD (S6.getD e3.toNat 0)):=Z8 (ZB b3.1 (by
   rw[s6_l]
   have:e3.toNat<S6.length:=by show e3.toNat<6;lia
   rw[getD_eq_getElem?_getD,getElem?_eq_getElem this];rfl)) (by decide +kernel)
 have key:∀c:Nat,(c∈QS∨c∈MK)→∃q' s',(sIf (WW (ux (zr xm (za (ze 7) zj)))) (y3 4 (eOp zW (ze 4) (ze 7))) yj) (qSt ns a x most q ((n:Int)+1) (some (.val (.int (0+k)))) (some (.val (zD c))))=.nx (qSt ns a x most q' ((n:Int)+1) (some (.val (.int (0+k)))) s')∧q'.length≤q.length+1∧∀c∈q',c∈QS:=fun c hc=>by
  have hadd:=UI (a:=⟨q.toArray⟩) (b:=⟨#[c]⟩) (by
   show q.toArray.size+1≤sizeLine
   rw[zL,size_toArray];lia)
  simp only[qSt,yw,MX,wB,yz,zA,zO,zK,getElem?_cons_zero,getElem?_cons_succ,zE,Rs.bind_ok,T5,xz,vj,Fl.of_ok]
  by_cases hm:c∈MK
  ·exact⟨q,some (.val (zD c)),by simp only[hm,decide_true,Bool.not_true,Bool.false_eq_true,if_false,zU],by lia,hqs⟩
  ·refine⟨q++[c],some (.val (zD c)),by simp only[hm,decide_false,Bool.not_false,if_true,yb,yf,zK,getElem?_cons_zero,getElem?_cons_succ,zE,Rs.bind_ok,zD,hadd,Fl.of_ok,set_cons_succ,set_cons_zero,UQ],by simp,fun d hd=>?_⟩
   rcases mem_append.mp hd with h|h
   ·exact hqs d h
   ·have:d=c:=by simpa using h
    subst this
    exact hc.resolve_right hm
 unfold Va
 simp only[qSt,zP,yb,wq,zA,zO,yf,zK,yG,yz,getElem?_cons_zero,getElem?_cons_succ,zE,Rs.bind_ok,Vv hsz,hl,vD,xT,m3,g1,xz,hmn,Fl.of_ok,set_cons_succ,set_cons_zero,yh,
  JG,Mz,WK,Vk,W0,hsl,htr,if_true,Xq,decide_true,hlo,yw,xL,g2,up,zV]
 by_cases hz:e2=0
 ·subst hz
  obtain⟨q',s',h1,h2,h3⟩:=key (S6.getD e3.toNat 0) (.inl (Tb _ (by lia)))
  simp only[qSt] at h1
  refine⟨q',(n:Int)+1,s',?_,h2,h3,by lia⟩
  simp only[beq_self_eq_true,if_true,g3,xz,Rs.bind_ok,hix,Fl.of_ok,yh]
  exact h1
 ·obtain⟨q',s',h1,h2,h3⟩:=key (lo1 x[n]) (Jn _ hxn).2
  simp only[qSt] at h1
  refine⟨q',(n:Int)+1,s',?_,h2,h3,by lia⟩
  have hb:(e2==0)=false:=by simpa using hz
  simp only[hb,Bool.false_eq_true,if_false,zU,yh]
  exact h1
theorem Gd(ns:List Int)(a:Int)(x:List Nat)(most:Int)(h63:ns.length≤63)(h0:0≤a)(ha:a<900000)(hm0:0≤most)(hm1:most<50)(hx0:0<x.length)(hx1:x.length≤100)(hx:∀c∈x,c∈NS) :
  ∃q:List Nat,(q.length:Int)≤most∧(∀c∈q,c∈QS)∧xB [.scr ns,.int a,.str ⟨x.toArray⟩,.int most]=.ok (.str ⟨q.toArray⟩):=by
 have st:zX 8 [D.scr ns,.int a,.str ⟨x.toArray⟩,.int most]=[some (.val (.scr ns)),some (.val (.int a)),some (.val (.str ⟨x.toArray⟩)),some (.val (.int most)),none,none,none,none]:=rfl
 have dl:=wH ns a (m:=most+1) (by lia)
 have dk:=wG ns a (most+1) h63 h0 (by lia) (by lia)
 generalize hN:xV ns a (most+1)=N at *
 have r1:=Wp (fs:=za (zr zv (za (ze 0) (za (ze 1) (za (eOp zW (ze 3) (eC (.int 1))) zj)))) zj) (τ:=qSt ns a x most [] 0 none none) (j:=N)
  (by simp only[qSt,zA,zO,yf,yG,yz,zK,getElem?_cons_zero,getElem?_cons_succ,zE,Rs.bind_ok,xT,dk,xz]) (by lia) (by lia)
 obtain⟨τ',l1,q,p,s1,s2,rfl,l2,l3,l4⟩:=Zs (set:=gNm 6) (body:=Va) (fun (k:Nat)=>D.int (0+k)) (fun k τ=>∃q p s1 s2,τ=qSt ns a x most q p s1 s2∧q.length≤k∧(∀c∈q,c∈QS)∧0≤p) N.toNat (qSt ns a x most [] 0 none none)
  ⟨[],0,none,none,rfl,le_refl _,(fun _ h=>nomatch h),Int.le_refl _⟩ fun k τ hk z_=>by
   obtain⟨q,p,s1,s2,e,h1,h2,h3⟩:=z_
   subst e
   obtain⟨q',p',s',g1,g2,g3,g4⟩:=Ub ns a x most q p k s2 h63 h0 ha (by lia) hx0 hx1 hx (by lia) h2 h3
   exact⟨_,_,jC,g1,q',p',_,s',rfl,by lia,g3,g4⟩
 refine⟨q,by lia,l3,?_⟩
 have s0:qSt ns a x most [] 0 none none=[some (.val (.scr ns)),some (.val (.int a)),some (.val (.str ⟨x.toArray⟩)),some (.val (.int most)),some (.val (.str "")),some (.val (.int 0)),none,none]:=rfl
 unfold xB j9
 rw[yc,st,zP,yb,yG,Fl.of_ok,yh,zP,yb,yG,Fl.of_ok,yh,zP,vY]
 simp only[set_cons_succ,set_cons_zero]
 rw[← s0,r1,Fl.of_ok]
 unfold jb
 have l1':y7 (gNm 6) Va ((List.range N.toNat).map fun (k:Nat)=>D.int (0+k)) (qSt ns a x most [] 0 none none)=.nx (qSt ns a x most q p s1 s2):=l1
 unfold Va at l1'
 rw[l1',yh]
 simp only[qSt,zZ,zK,getElem?_cons_zero,getElem?_cons_succ,zE,Fl.of_ok,zT]
noncomputable def xk(c d:Nat):Bool:=c==d||(decide (97≤c∧c≤122)&&up1 c==d)
theorem M1:("abcdefghijklmnopqrstuvwxyz" : Str).cps.toList=(List.range 26).map (· + 97):=by decide +kernel
theorem uS(c:Nat):decide (c∈("abcdefghijklmnopqrstuvwxyz" : Str).cps.toList)=decide (97≤c∧c≤122):=by
 rw[M1]
 apply decide_eq_decide.mpr
 rw[mem_map]
 constructor
 ·rintro⟨i,hi,rfl⟩
  have:=mem_range.mp hi
  lia
 ·intro h
  exact⟨c-97,mem_range.mpr (by lia),by lia⟩
theorem JS(c:Nat)(h:c<128):Txt.upper (⟨#[c]⟩:Str)=⟨#[up1 c]⟩:=by
 rw[upper_ascii (x:=⟨#[c]⟩) (by intro d hd;have e:d=c:=(by simpa using hd);lia)]
 simp
theorem Uk(c d:Nat):((⟨#[c]⟩:Str)==⟨#[d]⟩)=(c==d):=by
 rw[Bool.eq_iff_iff]
 simp
theorem YG(c d:Nat)(hc:c<128):xH [zD c,zD d]=.ok (.bl (xk c d)):=by
 have st:zX 2 [zD c,zD d]=[some (.val (zD c)),some (.val (zD d))]:=rfl
 have hup:upD (.str ⟨#[c]⟩) []=.ok (.str ⟨#[up1 c]⟩):=by
  simp only[upD]
  rw[if_pos (by show 1≤5000000;decide),JS _ hc]
 unfold xH JO
 rw[yc,st]
 simp only[zZ,Mz,JH,yf,zK,yG,JG,getElem?_cons_zero,getElem?_cons_succ,zE,Rs.bind_ok,zD,Mx,Uk,vj,ZM,wd,uS,Xq,decide_true,if_true,hup]
 unfold xk
 by_cases h:c=d
 ·subst h;simp
 ·have hb:(c==d)=false:=by simpa using h
  simp only[hb,Bool.false_eq_true,if_false,Bool.false_or]
  by_cases h2:97≤c∧c≤122
  ·simp[h2]
  ·simp[h2]
end Law
set_option Elab.async false
set_option linter.all false
set_option maxHeartbeats 1000000
namespace FD
open PySem PySem.Spec PyProof.Rows L2
section
variable{τ:DS}{fa fb fe fi:FE}{fs:FA}{n:Nat}{i:Int}
theorem j3:j4 n τ=(VH τ[n]?).bind fun ds=>.ok (.int ds.length):=rfl
theorem vm:Xg n fe τ=Fl.of (VH τ[n]?) fun ds=>Fl.of (fe τ) fun d=>if ds.length<sizeLine then .nx (τ.set n (some (.own (ds++[d])))) else .no:=rfl
theorem WI:wb fe τ=(fe τ).bind Jw:=rfl
@[simp] theorem Mb{ds:List D}:Jw (.lst ds)=.ok ds:=rfl
noncomputable def putAt(n:Nat)(ds:List D)(d:D)(τ:DS):D→Fl
 |.int k=>match ixN ds.length k with
  |some j=>.nx (τ.set n (some (.own (ds.set j d))))
  |none=>.no
 |_=>.no
theorem Wn:J2 n fi fe τ=Fl.of (fe τ) fun d=>Fl.of (VH τ[n]?) fun ds=>Fl.of (fi τ) (putAt n ds d τ):=by
 unfold J2 jf
 cases fe τ <;> rfl
theorem Gf{ds:List D}{d:D}{j:Nat}(h:j<ds.length):putAt n ds d τ (.int j)=.nx (τ.set n (some (.own (ds.set j d)))):=by
 have:ixN ds.length (j:Int)=some j:=by
  unfold ixN
  rw[if_pos (by lia),if_pos (by lia)]
  simp
 simp only[putAt,this]
noncomputable def ixO(ds:List D):D→Rs D
 |.int k=>match atI ds k with
  |some d=>.ok d
  |none=>.no
 |_=>.no
theorem Lx:QA n fi τ=(VH τ[n]?).bind fun ds=>(fi τ).bind (ixO ds):=by
 unfold QA
 show(VH τ[n]?).bind _=_
 cases VH τ[n]? <;> rfl
end
end FD
namespace Law
open PySem PySem.Spec PyProof.Rows L2 FD
noncomputable abbrev tx(x:List Nat):D:=.str ⟨x.toArray⟩
noncomputable abbrev nts(x:List Nat):D:=.lst (x.map fun (k:Nat)=>D.int k)
theorem vb(x:List Nat)(h:x.length≤1000):xj [tx x]=.ok (.int x.length):=by
 rw[Vv (by rw[zL];show x.toArray.size≤_;simp;lia)]
 show Rs.ok (D.int ((x.toArray.size:Nat):Int))=_
 simp
theorem UK(x:List Nat)(j:Nat)(c:Nat)(h:x[j]?=some c)(hl:x.length≤1000):ixD (tx x) (.int j)=.ok (zD c):=by
 refine Z8 (ZB (by lia) (by simpa using h)) (by rw[zL];show x.toArray.size≤_;simp;lia)
theorem QO(x:List Nat):uz ⟨x.toArray⟩=x.map zD:=by simp[uz]
noncomputable def epR:List Nat→List Nat→Nat→List Nat
 |[],_,_=>[]
 |_::_,[],_=>[]
 |a::q,c::x,k=>if xk a c=true then k::epR q x (k+1) else epR (a::q) x (k+1)
noncomputable def vM:List Nat→List Nat→Bool
 |[],_=>true
 |_::_,[]=>false
 |a::q,c::x=>if xk a c=true then vM q x else vM (a::q) x
theorem Y2:∀(q x:List Nat) (k:Nat),((epR q x k).length=q.length)↔vM q x=true
 |[],x,k=>by simp[epR,vM]
 |a::q,[],k=>by simp[epR,vM]
 |a::q,c::x,k=>by
  simp only[epR,vM]
  split
  ·simpa using Y2 q x (k+1)
  ·exact Y2 (a::q) x (k+1)
noncomputable abbrev its(x:List Int):D:=.lst (x.map D.int)
theorem vT{set:FG}{fe:FE}{τ:DS}{α β:Type}(f:α→D)(g:β→D)(h:α→β):∀(xs:List α),(∀a∈xs,∃τ1,set (f a) τ=.ok τ1∧fe τ1=.ok (g (h a)))→vU set (fun _=>.ok true) fe τ (xs.map f)=.ok ((xs.map h).map g):=by
 intro l_
 induction l_ with
 |nil=>
  rintro _
  exact rfl
 |cons a xs ih_=>
  rintro hs
  obtain⟨τ1,h1,h2⟩:=hs a (mem_cons_self ..)
  rw[map_cons,vU,h1]
  simp only[h2,ih_ fun b hb=>hs b (mem_cons_of_mem _ hb),Rs.bind_ok,map_cons]
end Law
set_option Elab.async false
set_option linter.all false
set_option maxHeartbeats 1000000
namespace FD
open PySem PySem.Spec PyProof.Rows L2
theorem ve(x:List Nat):(⟨x.toArray⟩:Str).length=x.length:=by show x.toArray.size=_;simp
theorem QZ(x:List Nat)(n:Nat):Txt.slice (⟨x.toArray⟩:Str) none (some (n:Int))=⟨(x.take n).toArray⟩:=by
 have:=eq_of_beq (slice_to_min_closes (x:=⟨x.toArray⟩) (n:=(n:Int)) (m:=_) (by lia) rfl)
 rw[this]
 congr 2
 rw[ve]
 show(List.drop (0:Int).toNat x).take _=_
 rw[show(0:Int).toNat=0 from rfl,drop_zero]
 split
 ·rw[take_of_length_le (by lia),take_of_length_le (by lia)]
 ·congr 1
theorem V6(x:List Nat)(i:Nat)(h:i≤x.length):Txt.slice (⟨x.toArray⟩:Str) (some (i:Int)) none=⟨(x.drop i).toArray⟩:=by
 have:=eq_of_beq (slice_closes_fromL (x:=⟨x.toArray⟩) (i:=(i:Int)) (b:=_) (by lia) (by rw[ve];lia) rfl)
 rw[this]
 congr 2
 rw[ve,Int.toNat_natCast]
 show(List.drop i x).take _=_
 rw[take_of_length_le (by rw[length_drop];lia)]
theorem UP(a b:List Nat):(⟨a.toArray⟩:Str)++(⟨b.toArray⟩:Str)=⟨(a++b).toArray⟩:=by
 show Str.mk _=_
 simp
theorem wk{set:FG}{ft:FT}{fe:FE}{τ:DS}{α:Type}(f g:α→D)(p:α→Bool):∀(xs:List α),(∀a∈xs,∃τ1,set (f a) τ=.ok τ1∧ft τ1=.ok (p a)∧fe τ1=.ok (g a))→vU set ft fe τ (xs.map f)=.ok ((xs.filter p).map g):=by
 intro l_
 induction l_ with
 |nil=>
  rintro _
  exact rfl
 |cons a xs ih_=>
  rintro hs
  obtain⟨τ1,h1,h2,h3⟩:=hs a (mem_cons_self ..)
  have ih:=ih_ fun b hb=>hs b (mem_cons_of_mem _ hb)
  rw[map_cons,vU,h1]
  cases hp:p a
  ·rw[hp] at h2
   simp only[h2,ih,List.filter_cons,hp,Bool.false_eq_true,if_false]
  ·rw[hp] at h2
   simp only[h2,h3,ih,List.filter_cons,hp,if_true,Rs.bind_ok,map_cons]
end FD
namespace Law
open PySem PySem.Spec PyProof.Rows L2 FD
theorem f1:∀a∈QS,∀c∈NS,xk (lo1 a) c=xk (lo1 a) (lo1 c):=by decide
theorem f2:∀a∈QS,∀c∈NS,xk a c=true→xk (lo1 a) c=true:=by decide
theorem f3:∀a∈QS,∀c∈NS,xk a c=true→lo1 c=lo1 a:=by decide
theorem f5:∀c∈NS,c<128∧lo1 c<128:=by decide
theorem f6:∀c∈QS,c<128∧lo1 c<128:=by decide
structure Lay(q x l:List Nat):Prop where
 len:l.length=q.length
 ris:∀j,j+1<l.length→l.getD j 0<l.getD (j+1) 0
 inn:∀j,j<l.length→l.getD j 0<x.length
 met:∀j,j<l.length→xk (q.getD j 0) (x.getD (l.getD j 0) 0)=true
noncomputable def LF(x:List Nat)(p:Nat):Int:=if p=0 then 8 else if x.getD (p-1) 0∈MK then 6 else if (65≤x.getD p 0∧x.getD p 0≤90)∧((97≤x.getD (p-1) 0∧x.getD (p-1) 0≤122)∨(48≤x.getD (p-1) 0∧x.getD (p-1) 0≤57)) then 5 else 0
noncomputable def ZV(a:Nat)(x:List Nat)(p:Nat):Int:=10+LF x p+(if x.getD p 0=a then 1 else 0)
noncomputable def Vw(p:Nat):Int:=-(if (p:Int)<3 then (p:Int) else 3)
noncomputable def ZG(r p:Nat):Int:=if (p:Int)-r-1=0 then 7 else -(if (p:Int)-r-1<5 then (p:Int)-r-1 else 5)
noncomputable def trm(q x l:List Nat)(j:Nat):Int:=ZV (q.getD j 0) x (l.getD j 0)+(if j=0 then Vw (l.getD 0 0) else ZG (l.getD (j-1) 0) (l.getD j 0))
noncomputable def pts(q x l:List Nat):Nat→Int
 |0=>0
 |n+1=>pts q x l n+trm q x l n
noncomputable abbrev Tl:=Int×List Nat
noncomputable def ji:List Tl→Option Tl→Option Tl
 |[],c=>c
 |t::r,none=>ji r (some t)
 |t::r,some c=>ji r (some (if c.1<t.1 then t else c))
noncomputable def YM(a:Nat)(x:List Nat):List Tl:=((List.range x.length).filter fun p=>xk a (x.getD p 0)).map fun p=>(ZV a x p,[p])
noncomputable def jY(p:Nat)(ts:List Tl):List Tl:=(ts.filter fun t=>decide (p<t.2.getD 0 0)).map fun t=>(t.1+ZG p (t.2.getD 0 0),t.2)
noncomputable def YK(a:Nat)(x:List Nat)(ts:List Tl)(p:Nat):Option Tl:=if xk a (x.getD p 0)=true then (ji (jY p ts) none).map fun t=>(ZV a x p+t.1,p::t.2) else none
noncomputable def XX(a:Nat)(x:List Nat)(ts:List Tl):List Tl:=(List.range x.length).filterMap (YK a x ts)
noncomputable def yS:List Nat→List Nat→List Tl
 |[],_=>[]
 |[a],x=>YM a x
 |a::b::q,x=>XX a x (yS (b::q) x)
noncomputable def Jq(t:Tl):Tl:=(t.1+Vw (t.2.getD 0 0),t.2)
noncomputable def Y9(q x:List Nat):Option Tl:=ji ((yS q x).map Jq) none
theorem vS:∀(ts:List Tl) (c:Option Tl) (t:Tl),ji ts c=some t→t∈ts∨c=some t
 |[],c,t,h=>.inr h
 |u::r,none,t,h=>by
  rcases vS r (some u) t h with h|h
  ·exact .inl (mem_cons_of_mem _ h)
  ·cases h;exact .inl (mem_cons_self ..)
 |u::r,some c,t,h=>by
  rcases vS r _ t h with h|h
  ·exact .inl (mem_cons_of_mem _ h)
  ·by_cases g:c.1<u.1
   ·rw[if_pos g] at h;cases h;exact .inl (mem_cons_self ..)
   ·rw[if_neg g] at h;exact .inr h
noncomputable def sm(f:Nat→Int):Nat→Int
 |0=>0
 |n+1=>sm f n+f n
theorem Wh(f:Nat→Int):∀n,sm f (n+1)=f 0+sm (fun j=>f (j+1)) n:=by
 intro l_
 induction l_ with
 |zero=>
  simp[sm]
 |succ n ih_=>
  rw[sm,ih_,sm];lia
theorem Gg(q x l:List Nat):∀n,pts q x l n=sm (trm q x l) n:=by
 intro l_
 induction l_ with
 |zero=>
  exact rfl
 |succ n ih_=>
  rw[pts,sm,ih_]
noncomputable def trk(x:List Nat)(r:Nat)(q l:List Nat)(j:Nat):Int:=ZV (q.getD j 0) x (l.getD j 0)+ZG (if j=0 then r else l.getD (j-1) 0) (l.getD j 0)
theorem QU(a p:Nat)(q x l:List Nat)(j:Nat):trm (a::q) x (p::l) (j+1)=trk x p q l j:=by
 simp only[trm,trk,getD_cons_succ,Nat.succ_ne_zero,if_false,Nat.add_sub_cancel]
 cases j with
 |zero=>rw[if_pos rfl,getD_cons_zero]
 |succ j=>rw[if_neg (Nat.succ_ne_zero j),getD_cons_succ,Nat.add_sub_cancel]
theorem QV(a p r:Nat)(q x l:List Nat)(j:Nat):trk x r (a::q) (p::l) (j+1)=trk x p q l j:=by
 simp only[trk,getD_cons_succ,Nat.succ_ne_zero,if_false,Nat.add_sub_cancel]
 cases j with
 |zero=>rw[if_pos rfl,getD_cons_zero]
 |succ j=>rw[if_neg (Nat.succ_ne_zero j),getD_cons_succ,Nat.add_sub_cancel]
noncomputable def Yg(x:List Nat):List Nat→List Nat→Int
 |a::q,p::l=>ZV a x p+sm (trk x p q l) l.length
 |_,_=>0
theorem QW(a p:Nat)(q x l:List Nat):Yg x (a::q) (p::l)+Vw p=pts (a::q) x (p::l) (l.length+1):=by
 rw[Gg,Wh,funext (QU a p q x l)]
 simp only[Yg,trm,if_true,getD_cons_zero]
 lia
theorem JX(a b p r:Nat)(q x l:List Nat):Yg x (a::b::q) (p::r::l)=ZV a x p+ZG p r+Yg x (b::q) (r::l):=by
 simp only[Yg,length_cons]
 rw[Wh,funext (QV b r p q x l)]
 simp only[trk,if_true,getD_cons_zero]
 lia
theorem Lay.one{a p:Nat}{x:List Nat}(h1:p<x.length)(h2:xk a (x.getD p 0)=true):Lay [a] x [p]:=by
 have z:∀j,j<[p].length→j=0:=fun j hj=>by simpa using hj
 exact⟨rfl,fun j hj=>by simp at hj,fun j hj=>by rw[z j hj];exact h1,fun j hj=>by rw[z j hj];exact h2⟩
theorem Lay.cons{a p:Nat}{q x l:List Nat}(h:Lay q x l)(h1:p<x.length)(h2:xk a (x.getD p 0)=true)(h3:0<l.length→p<l.getD 0 0):Lay (a::q) x (p::l):=by
 refine⟨by simp[h.len],fun j hj=>?_,fun j hj=>?_,fun j hj=>?_⟩
 ·cases j with
  |zero=>simpa using h3 (by simpa using hj)
  |succ j=>simpa using h.ris j (by simpa using hj)
 ·cases j with
  |zero=>simpa using h1
  |succ j=>simpa using h.inn j (by simpa using hj)
 ·cases j with
  |zero=>exact h2
  |succ j=>simpa using h.met j (by simpa using hj)
theorem Lay.tail{a p:Nat}{q x l:List Nat}(h:Lay (a::q) x (p::l)):Lay q x l∧p<x.length∧xk a (x.getD p 0)=true∧(0<l.length→p<l.getD 0 0):=by
 refine⟨⟨by simpa using h.len,fun j hj=>?_,fun j hj=>?_,fun j hj=>?_⟩,by simpa using h.inn 0 (by simp),by simpa using h.met 0 (by simp),fun h0=>by simpa using h.ris 0 (by simpa using h0)⟩
 ·simpa using h.ris (j+1) (by simpa using hj)
 ·simpa using h.inn (j+1) (by simpa using hj)
 ·simpa using h.met (j+1) (by simpa using hj)
theorem uw(x:List Nat):∀(q:List Nat) (t:Tl),t∈yS q x→Lay q x t.2∧t.1=Yg x q t.2
 |[],t,h=>by simp[yS] at h
 |[a],t,h=>by
  simp only[yS,YM,mem_map,mem_filter,mem_range] at h
  obtain⟨p,⟨h1,h2⟩,rfl⟩:=h
  exact⟨Lay.one h1 h2,by simp[Yg,sm]⟩
 |a::b::q,t,h=>by
  simp only[yS,XX,List.mem_filterMap,mem_range] at h
  obtain⟨p,h1,h2⟩:=h
  unfold YK at h2
  split at h2
  ·rename_i hm
   cases e:ji (jY p (yS (b::q) x)) none with
   |none=>rw[e] at h2;cases h2
   |some u=>
    rw[e] at h2
    have h2:some (ZV a x p+u.1,p::u.2)=some t:=h2
    cases h2
    rcases vS _ _ _ e with g|g
    ·simp only[jY,mem_map,mem_filter,decide_eq_true_eq] at g
     obtain⟨v,⟨g1,g2⟩,rfl⟩:=g
     obtain⟨k1,k2⟩:=uw x (b::q) v g1
     refine⟨k1.cons h1 hm fun _=>g2,?_⟩
     have hl:=k1.len
     cases e2:v.2 with
     |nil=>rw[e2] at hl;simp at hl
     |cons r l=>
      rw[e2] at k2
      simp only[getD_cons_zero]
      rw[JX,k2]
      lia
    ·cases g
  ·cases h2
theorem UD(q x:List Nat)(hq:q≠[])(v:Int)(l:List Nat)(h:Y9 q x=some (v,l)):Lay q x l∧v=pts q x l q.length:=by
 unfold Y9 at h
 rcases vS _ _ _ h with g|g
 ·obtain⟨t,g1,g2⟩:=mem_map.mp g
  obtain⟨k1,k2⟩:=uw x q t g1
  simp only[Jq,Prod.mk.injEq] at g2
  obtain⟨rfl,rfl⟩:=g2
  refine⟨k1,?_⟩
  cases q with
  |nil=>exact absurd rfl hq
  |cons a q=>
   have hl:=k1.len
   cases e2:t.2 with
   |nil=>rw[e2] at hl;simp at hl
   |cons p l=>
    rw[e2] at k2 hl
    simp only[length_cons] at hl ⊢
    have:q.length=l.length:=by lia
    rw[this,← QW,k2,getD_cons_zero]
 ·cases g
theorem u8(l:List Nat)(j:Nat)(h:j<l.length):(l.map (· - 1)).getD j 0=l.getD j 0-1:=by
 simp[getD_eq_getElem?_getD,getElem?_map,getElem?_eq_getElem h]
theorem Lay.back{q x l:List Nat}{c:Nat}(h:Lay q (c::x) l)(h0:∀j,j<l.length→0<l.getD j 0):Lay q x (l.map (· - 1)):=by
 refine⟨by simp[h.len],fun j hj=>?_,fun j hj=>?_,fun j hj=>?_⟩ <;> rw[length_map] at hj
 ·rw[u8 _ _ (by lia),u8 _ _ hj]
  have:=h.ris j hj;have:=h0 j (by lia);lia
 ·rw[u8 _ _ hj]
  have:=h.inn j hj;have:=h0 j hj;simp only[length_cons] at *;lia
 ·rw[u8 _ _ hj]
  have a:=h.met j hj;have b:=h0 j hj
  obtain⟨k,hk⟩:∃k,l.getD j 0=k+1:=⟨l.getD j 0-1,by lia⟩
  rw[hk,getD_cons_succ] at a
  rw[hk];exact a
theorem Lay.low{q x l:List Nat}(h:Lay q x l)(h0:0<l.getD 0 0):∀j,j<l.length→0<l.getD j 0:=fun j=>by
 induction j with
 |zero=>exact fun _=>h0
 |succ j ih=>intro hj;have:=h.ris j hj;lia
theorem YL:∀(x q l:List Nat),Lay q x l→vM q x=true:=by
 intro l_
 induction l_ with
 |nil=>
  rintro q l h
  cases q with
  |nil=>rfl
  |cons a q=>
   have:=h.inn 0 (by rw[h.len];simp)
   simp at this
 |cons c x ih_=>
  rintro q l h
  cases q with
  |nil=>rfl
  |cons a q=>
   cases l with
   |nil=>have:=h.len;simp at this
   |cons p l=>
    simp only[vM]
    split
    ·obtain⟨h1,_,_,h3⟩:=h.tail
     refine ih_ q (l.map (· - 1)) (h1.back fun j hj=>?_)
     have h4:=h3 (by lia)
     exact h1.low (by lia) j hj
    ·rename_i hm
     refine ih_ (a::q) ((p::l).map (· - 1)) (h.back (h.low ?_))
     rcases Nat.eq_zero_or_pos p with z|z
     ·subst z
      have:=h.met 0 (by simp)
      simp only[getD_cons_zero] at this
      exact absurd this hm
     ·simpa using z
end Law
set_option Elab.async false
set_option linter.all false
set_option maxHeartbeats 1000000
namespace FD
open PySem PySem.Spec PyProof.Rows L2
noncomputable def negI:D→Rs D
 |.int i=>.ok (.int (-i))
 |_=>.no
@[simp] theorem GS{i:Int}:negI (.int i)=.ok (.int (-i)):=rfl
theorem Yc{fa:FE}{τ:DS}:wP fa τ=(fa τ).bind negI:=by
 unfold wP
 show(fa τ).bind _=_
 cases fa τ with
 |ok d=>cases d <;> rfl
 |_=>rfl
theorem GW(i j:Int):jW [.int i,.int j]=.ok (.int (if j<i then j else i)):=rfl
theorem Lw{fe:FE}{τ:DS}:My fe τ=(fe τ).bind Q8:=rfl
end FD
namespace Law
open PySem PySem.Spec PyProof.Rows L2 FD
noncomputable abbrev tlD(t:Tl):D:=.tup [.int t.1,nts t.2]
noncomputable def jc:Option Tl→D
 |none=>.non
 |some t=>tlD t
theorem JW(t:Tl):ixD (tlD t) (.int 0)=.ok (.int t.1):=rfl
theorem JV(t:Tl):ixD (tlD t) (.int 1)=.ok (nts t.2):=rfl
theorem ze4(l:List Nat)(j:Nat)(h:j<l.length):ixD (nts l) (.int (j:Int))=.ok (.int (l.getD j 0:Nat)):=by
 refine WF (ZB (by lia) ?_)
 simp[getD_eq_getElem?_getD,getElem?_eq_getElem h]
theorem WA(l:List Nat)(h:0<l.length):ixD (nts l) (.int 0)=.ok (.int (l.getD 0 0:Nat)):=ze4 l 0 h
theorem j0(x:List Nat)(j:Nat)(h:j<x.length):x[j]?=some (x.getD j 0):=by
 rw[getD_eq_getElem?_getD,getElem?_eq_getElem h];rfl
theorem Xy(x:List Nat)(j:Nat)(h:j<x.length)(hx:x.length≤1000):ixD (tx x) (.int (j:Int))=.ok (zD (x.getD j 0)):=UK x j _ (j0 x j h) hx
theorem Lp:("ABCDEFGHIJKLMNOPQRSTUVWXYZ" : Str).cps.toList=(List.range 26).map (· + 65):=by decide +kernel
theorem zh4:("0123456789" : Str).cps.toList=(List.range 10).map (· + 48):=by decide +kernel
theorem UX(c n a:Nat):decide (c∈(List.range (n+1)).map (· + a))=decide (a≤c∧c≤n+a):=by
 apply decide_eq_decide.mpr
 rw[mem_map]
 constructor
 ·rintro⟨i,hi,rfl⟩
  have:=mem_range.mp hi
  lia
 ·intro h
  exact⟨c-a,mem_range.mpr (by lia),by lia⟩
theorem u7(c:Nat):decide (c∈("ABCDEFGHIJKLMNOPQRSTUVWXYZ" : Str).cps.toList)=decide (65≤c∧c≤90):=by
 rw[Lp];exact UX c 25 65
theorem YY(c:Nat):decide (c∈("0123456789" : Str).cps.toList)=decide (48≤c∧c≤57):=by
 rw[zh4];exact UX c 9 48
theorem zi2(x:List Nat)(p:Nat)(hx:x.length≤1000)(hp:p<x.length):yB [tx x,.int (p:Int)]=.ok (.int (LF x p)):=by
 have st:zX 3 [tx x,.int (p:Int)]=[some (.val (tx x)),some (.val (.int (p:Int))),none]:=rfl
 unfold yB vh
 rw[yc,st]
 cases p with
 |zero=>
  simp only[zP,yw,zZ,zU,xL,yf,zK,yG,getElem?_cons_zero,getElem?_cons_succ,zE,Rs.bind_ok,Fl.of_ok,Ze,zT,zV,up,if_true,show((((0:Nat):Int))==0)=true from rfl]
  rfl
 |succ k=>
  have e0:(((k+1:Nat):Int)==0)=false:=by simp;lia
  have e1:((k+1:Nat):Int)-1=(k:Int):=by lia
  have hk:=Xy x k (by lia) hx
  have hk1:=Xy x (k+1) hp hx
  have hb:LF x (k+1)=if x.getD k 0∈MK then 6 else if (65≤x.getD (k+1) 0∧x.getD (k+1) 0≤90)∧((97≤x.getD k 0∧x.getD k 0≤122)∨(48≤x.getD k 0∧x.getD k 0≤57)) then 5 else 0:=by
   unfold LF;rw[if_neg (Nat.succ_ne_zero k)];rfl
  rw[hb]
  generalize x.getD k 0=c at *
  generalize x.getD (k+1) 0=d at *
  simp only[zD] at hk hk1
  by_cases h1:c∈MK
  ·simp only[zP,yb,yw,zZ,zU,xL,yf,zK,yG,getElem?_cons_zero,getElem?_cons_succ,set_cons_succ,set_cons_zero,zE,Rs.bind_ok,Fl.of_ok,yh,Ze,zT,zV,vD,up,if_true,Bool.false_eq_true,if_false,e0,e1,hk,ZM,wd,Qh,h1,decide_true]
  ·by_cases h2:65≤d∧d≤90
   ·by_cases h3:97≤c∧c≤122
    ·have h4:(65≤d∧d≤90)∧((97≤c∧c≤122)∨(48≤c∧c≤57)):=⟨h2,.inl h3⟩
     rw[if_neg h1,if_pos h4]
     simp only[zP,yb,yw,zZ,zU,xL,wC,uy,yf,zK,yG,getElem?_cons_zero,getElem?_cons_succ,set_cons_succ,set_cons_zero,zE,Rs.bind_ok,Fl.of_ok,yh,Ze,zT,zV,vD,up,if_true,Bool.false_eq_true,if_false,e0,e1,hk,hk1,ZM,wd,Qh,h1,decide_false,u7,uS,YY,h2,h3,and_self,decide_true]
    ·by_cases h5:48≤c∧c≤57
     ·have h4:(65≤d∧d≤90)∧((97≤c∧c≤122)∨(48≤c∧c≤57)):=⟨h2,.inr h5⟩
      rw[if_neg h1,if_pos h4]
      simp only[zP,yb,yw,zZ,zU,xL,wC,uy,yf,zK,yG,getElem?_cons_zero,getElem?_cons_succ,set_cons_succ,set_cons_zero,zE,Rs.bind_ok,Fl.of_ok,yh,Ze,zT,zV,vD,up,if_true,Bool.false_eq_true,if_false,e0,e1,hk,hk1,ZM,wd,Qh,h1,decide_false,u7,uS,YY,decide_eq_true h2,decide_eq_false h3,decide_eq_true h5]
     ·have h4:¬ ((65≤d∧d≤90)∧((97≤c∧c≤122)∨(48≤c∧c≤57))):=fun h=>by rcases h.2 with h|h;exact h3 h;exact h5 h
      rw[if_neg h1,if_neg h4]
      simp only[zP,yb,yw,zZ,zU,xL,wC,uy,yf,zK,yG,getElem?_cons_zero,getElem?_cons_succ,set_cons_succ,set_cons_zero,zE,Rs.bind_ok,Fl.of_ok,yh,zT,zV,vD,up,if_true,Bool.false_eq_true,if_false,e0,e1,hk,hk1,ZM,wd,Qh,h1,decide_false,u7,uS,YY,decide_eq_true h2,decide_eq_false h3,decide_eq_false h5]
   ·have h4:¬ ((65≤d∧d≤90)∧((97≤c∧c≤122)∨(48≤c∧c≤57))):=fun h=>h2 h.1
    rw[if_neg h1,if_neg h4]
    simp only[zP,yb,yw,zZ,zU,xL,wC,uy,yf,zK,yG,getElem?_cons_zero,getElem?_cons_succ,set_cons_succ,set_cons_zero,zE,Rs.bind_ok,Fl.of_ok,yh,zT,zV,vD,up,Bool.false_eq_true,if_false,e0,e1,hk,hk1,ZM,wd,Qh,h1,decide_false,u7,decide_eq_false h2]
theorem GB(a:Nat)(x:List Nat)(p:Nat)(hx:x.length≤1000)(hp:p<x.length):yx [zD a,tx x,.int (p:Int)]=.ok (.int (ZV a x p)):=by
 have st:zX 4 [zD a,tx x,.int (p:Int)]=[some (.val (zD a)),some (.val (tx x)),some (.val (.int (p:Int))),none]:=rfl
 have hk:=Xy x p hp hx
 have hb:=zi2 x p hx hp
 unfold yx j7 ZV
 rw[yc,st]
 simp only[zD] at hk ⊢
 by_cases h:x.getD p 0=a
 ·have h':(x.getD p 0==a)=true:=by simpa using h
  rw[if_pos h]
  simp only[zP,yb,zZ,xL,yf,zK,yG,zO,zA,yz,MA,getElem?_cons_zero,getElem?_cons_succ,set_cons_succ,set_cons_zero,zE,Rs.bind_ok,Fl.of_ok,yh,zT,xz,zV,xT,Mx,if_true,hk,Uk,h',hb]
 ·have h':(x.getD p 0==a)=false:=by simpa using h
  rw[if_neg h]
  simp only[zP,yb,zZ,xL,yf,zK,yG,zO,zA,yz,MA,getElem?_cons_zero,getElem?_cons_succ,set_cons_succ,set_cons_zero,zE,Rs.bind_ok,Fl.of_ok,yh,zT,xz,zV,xT,Mx,Bool.false_eq_true,if_false,hk,Uk,h',hb]
theorem Ld(p:Nat):yO [.int (p:Int)]=.ok (.int (Vw p)):=by
 have st:zX 1 [.int (p:Int)]=[some (.val (.int (p:Int)))]:=rfl
 unfold yO jl Vw
 rw[yc,st]
 simp only[zZ,zK,yG,zO,zA,wq,getElem?_cons_zero,zE,Rs.bind_ok,Fl.of_ok,zT,GW,Yc,GS]
 congr 3
 split <;> split <;> lia
theorem T9(r p:Nat):xh [.int (r:Int),.int (p:Int)]=.ok (.int (ZG r p)):=by
 have st:zX 3 [.int (r:Int),.int (p:Int)]=[some (.val (.int (r:Int))),some (.val (.int (p:Int))),none]:=rfl
 unfold xh jk ZG
 rw[yc,st]
 by_cases h:(p:Int)-r-1=0
 ·have h':((p:Int)-r-1==0)=true:=by simpa using h
  rw[if_pos h]
  simp only[zP,yb,yw,zZ,zU,xL,yf,zK,yG,getElem?_cons_zero,getElem?_cons_succ,set_cons_succ,set_cons_zero,zE,Rs.bind_ok,Fl.of_ok,yh,Ze,zT,zV,vD,up,if_true,h']
 ·have h':((p:Int)-r-1==0)=false:=by simpa using h
  rw[if_neg h]
  simp only[zP,yb,yw,zZ,zU,xL,yf,zK,yG,zO,zA,wq,getElem?_cons_zero,getElem?_cons_succ,set_cons_succ,set_cons_zero,zE,Rs.bind_ok,Fl.of_ok,yh,zT,zV,vD,up,Bool.false_eq_true,if_false,h',GW,Yc,GS]
  congr 3
  split <;> split <;> lia
end Law
set_option Elab.async false
set_option linter.all false
set_option maxHeartbeats 1000000
namespace FD
open PySem PySem.Spec PyProof.Rows L2
theorem zb0{fs:FA}{τ:DS}{i j:Int}(h:fs τ=.ok [.int i,.int j,.int (-1)])(h1 : -(2 ^ 62)≤i)(h2:i<2 ^ 62)(h3 : -(2 ^ 62)≤j)(h4:j<2 ^ 62):Qt fs τ=.ok (ZD i (i-j).toNat):=by
 unfold Qt
 rw[h]
 simp only[Rs.bind_ok,VE]
 rw[if_pos ⟨⟨h1,h2⟩,h3,h4⟩]
end FD
namespace Law
open PySem PySem.Spec PyProof.Rows L2 FD
noncomputable def Zy:FS:=(sIf (WV (FD.tB (eOp isD (ze 1) (eC .non))) (FD.tB (eOp gtD (eOp ixD (ze 2) (eC (.int 0))) (eOp ixD (ze 1) (eC (.int 0)))))) (y3 1 (ze 2)) yj)
theorem zg8:isD .non .non=.ok (.bl true):=rfl
theorem LZ(t:Tl):isD (tlD t) .non=.ok (.bl false):=rfl
theorem X4:ub .non .non=.ok (.bl false):=rfl
theorem VB(t:Tl):ub (tlD t) .non=.ok (.bl true):=rfl
theorem WJ(z:D):∀(ts:List Tl) (c:Option Tl) (s:Option Sl),∃s',y7 (gNm 2) Zy (ts.map tlD) [some (.val z),some (.val (jc c)),s]=.nx [some (.val z),some (.val (jc (ji ts c))),s']
 |[],c,s=>⟨s,rfl⟩
 |t::ts,none,s=>by
  obtain⟨s',ih⟩:=WJ z ts (some t) (some (.val (tlD t)))
  refine⟨s',?_⟩
  have:Zy [some (.val z),some (.val (jc none)),some (.val (tlD t))]=.nx [some (.val z),some (.val (jc (some t))),some (.val (tlD t))]:=by
   unfold Zy jc
   simp only[yb,yw,zU,xL,uy,yf,zK,yG,getElem?_cons_zero,getElem?_cons_succ,set_cons_succ,set_cons_zero,zE,Rs.bind_ok,Fl.of_ok,zV,if_true,zg8]
  rw[map_cons,y7,jC,Fl.of_ok]
  simp only[set_cons_succ,set_cons_zero,this]
  rw[ih]
  rfl
 |t::ts,some c,s=>by
  obtain⟨s',ih⟩:=WJ z ts (some (if c.1<t.1 then t else c)) (some (.val (tlD t)))
  refine⟨s',?_⟩
  have:Zy [some (.val z),some (.val (jc (some c))),some (.val (tlD t))]=.nx [some (.val z),some (.val (jc (some (if c.1<t.1 then t else c)))),some (.val (tlD t))]:=by
   unfold Zy jc
   by_cases h:c.1<t.1
   ·rw[if_pos h]
    simp only[yb,yw,zU,xL,uy,yf,zK,yG,getElem?_cons_zero,getElem?_cons_succ,set_cons_succ,set_cons_zero,zE,Rs.bind_ok,Fl.of_ok,zV,JD,if_true,Bool.false_eq_true,if_false,LZ,JW,h,decide_true]
   ·rw[if_neg h]
    simp only[yb,yw,zU,xL,uy,yf,zK,yG,getElem?_cons_zero,getElem?_cons_succ,set_cons_succ,set_cons_zero,zE,Rs.bind_ok,Fl.of_ok,zV,JD,Bool.false_eq_true,if_false,LZ,JW,h,decide_false]
  rw[map_cons,y7,jC,Fl.of_ok]
  simp only[set_cons_succ,set_cons_zero,this]
  rw[ih]
  rfl
theorem L5(ts:List Tl):zR [.lst (ts.map tlD)]=.ok (jc (ji ts none)):=by
 have st:zX 3 [.lst (ts.map tlD)]=[some (.val (.lst (ts.map tlD))),none,none]:=rfl
 obtain⟨s',h⟩:=WJ (.lst (ts.map tlD)) ts none none
 unfold Zy at h
 unfold zR ur
 rw[yc,st]
 simp only[jc] at h
 simp only[zP,yb,zZ,vY,WI,Mb,zK,yG,getElem?_cons_zero,getElem?_cons_succ,set_cons_succ,set_cons_zero,zE,Rs.bind_ok,Fl.of_ok,yh,zT,h]
 rfl
theorem size2:∀a b:D,([a,b]:List D).length≤sizeLine:=fun a b=>by rw[zL];exact Nat.le_of_ble_eq_true rfl
theorem size1:∀a:D,([a]:List D).length≤sizeLine:=fun a=>by rw[zL];exact Nat.le_of_ble_eq_true rfl
theorem VZ{fa fb:FE}{τ:DS}{a b:D}(h1:fa τ=.ok a)(h2:fb τ=.ok b):wO (za fa (za fb zj)) τ=.ok (.tup [a,b]):=by
 rw[JF,zA,h1,Rs.bind_ok,zA,h2,Rs.bind_ok,zO,Rs.bind_ok,Rs.bind_ok,Rs.bind_ok]
 exact if_pos (size2 a b)
theorem GY{fa:FE}{τ:DS}{a:D}(h1:fa τ=.ok a):vJ (za fa zj) τ=.ok (.lst [a]):=by
 rw[WL,zA,h1,Rs.bind_ok,zO,Rs.bind_ok,Rs.bind_ok]
 exact if_pos (size1 a)
theorem VV{f:List D→Rs D}{fa:FE}{τ:DS}{a d:D}(h1:fa τ=.ok a)(h:f [a]=.ok d):zr f (za fa zj) τ=.ok d:=by
 rw[yz,zA,h1,Rs.bind_ok,zO,Rs.bind_ok,Rs.bind_ok,h];rfl
theorem uP{f:List D→Rs D}{fa fb:FE}{τ:DS}{a b d:D}(h1:fa τ=.ok a)(h2:fb τ=.ok b)(h:f [a,b]=.ok d):zr f (za fa (za fb zj)) τ=.ok d:=by
 rw[yz,zA,h1,Rs.bind_ok,zA,h2,Rs.bind_ok,zO,Rs.bind_ok,Rs.bind_ok,Rs.bind_ok,h];rfl
theorem uq{f:List D→Rs D}{fa fb fc:FE}{τ:DS}{a b c d:D}(h1:fa τ=.ok a)(h2:fb τ=.ok b)(h3:fc τ=.ok c)(h:f [a,b,c]=.ok d):zr f (za fa (za fb (za fc zj))) τ=.ok d:=by
 rw[yz,zA,h1,Rs.bind_ok,zA,h2,Rs.bind_ok,zA,h3,Rs.bind_ok,zO,Rs.bind_ok,Rs.bind_ok,Rs.bind_ok,Rs.bind_ok,h];rfl
theorem op2{op:D→D→Rs D}{fa fb:FE}{τ:DS}{a b:D}{r:Rs D}(h1:fa τ=.ok a)(h2:fb τ=.ok b)(h:op a b=r):eOp op fa fb τ=r:=by
 rw[yf,h1,Rs.bind_ok,h2,Rs.bind_ok,h]
theorem zo{n:Nat}{τ:DS}{d:D}(h:τ[n]?=some (some (.val d))):ze n τ=.ok d:=by rw[zK,h];rfl
theorem wI{k:Nat}{idx:List Nat}{fi:FA}{set:FG}{ft:FT}{fe:FE}{τ:DS}{ds xs:List D}(h1:fi τ=.ok ds)(h2:vU set ft fe (vC k idx τ) ds=.ok xs)(h3:xs.length≤1000):xI k idx fi set ft fe τ=.ok xs:=by
 unfold xI
 rw[h1,Rs.bind_ok,h2]
 exact if_pos (by rw[zL];lia)
theorem tru_ok{fe:FE}{τ:DS}{b:Bool}(h:fe τ=.ok (.bl b)):ux fe τ=.ok b:=by rw[wB,h];rfl
theorem wU{fe:FE}{τ:DS}{b:Bool}(h:fe τ=.ok (.bl b)):FD.tB fe τ=.ok b:=by rw[xL,h];rfl
theorem Yl{fa:FE}{τ:DS}{n:Nat}(h:fa τ=.ok (.int (n:Int)))(hn:n≤1000):wM (za fa zj) τ=.ok ((List.range n).map fun (k:Nat)=>D.int (0+k)):=by
 rw[Wp (j:=(n:Int)) (by rw[zA,h,Rs.bind_ok,zO,Rs.bind_ok]) (by lia) (by lia),Int.toNat_natCast];rfl
theorem Xs{g:List D→Rs D}{fa:FE}{τ:DS}{a d:D}(h1:fa τ=.ok a)(h:g [a]=.ok d):yZ g (za fa zj) τ=.ok d:=by
 rw[wq,zA,h1,Rs.bind_ok,zO,Rs.bind_ok,Rs.bind_ok,h]
theorem Xp(a:Nat)(x:List Nat)(ha:a<128)(hx:x.length≤1000):yi [zD a,tx x]=.ok (.lst ((YM a x).map tlD)):=by
 have st:zX 2 [zD a,tx x]=[some (.val (zD a)),some (.val (tx x))]:=rfl
 have cf:=wk (set:=gNm 0) (ft:=(ux (zr xH (za (ze 1) (za (eOp ixD (ze 2) (ze 0)) zj))))) (fe:=(wO (za (zr yx (za (ze 1) (za (ze 2) (za (ze 0) zj)))) (za (vJ (za (ze 0) zj)) zj)))) (τ:=[none,some (.val (zD a)),some (.val (tx x))])
  (fun (k:Nat)=>D.int (0+k)) (fun (p:Nat)=>tlD (ZV a x p,[p])) (fun p=>xk a (x.getD p 0)) (List.range x.length) fun p hp=>by
   have hp:=mem_range.mp hp
   refine⟨[some (.val (.int (p:Int))),some (.val (zD a)),some (.val (tx x))],by rw[Int.zero_add];rfl,?_,?_⟩
   ·exact tru_ok (uP (zo rfl) (op2 (zo rfl) (zo rfl) (Xy x p hp hx)) (YG a _ ha))
   ·exact VZ (uq (zo rfl) (zo rfl) (zo rfl) (GB a x p hx hp)) (GY (zo rfl))
 have hlen:(((List.range x.length).filter fun p=>xk a (x.getD p 0)).map fun (p:Nat)=>tlD (ZV a x p,[p])).length≤1000:=by
  rw[length_map]
  have:=length_filter_le (fun p=>xk a (x.getD p 0)) (List.range x.length)
  rw[length_range] at this;lia
 have ec:=wI (k:=1) (idx:=[0,1]) (fi:=wM (za (yZ xj (za (ze 1) zj)) zj)) (τ:=[some (.val (zD a)),some (.val (tx x))]) (Yl (Xs (zo rfl) (vb x hx)) hx) cf hlen
 unfold yi vA
 rw[yc,st,zZ]
 simp only[ec,Rs.bind_ok,Fl.of_ok,zT]
 unfold YM
 rw[map_map]
 rfl
theorem Ql(p:Nat)(ts:List Tl)(hs:ts.length≤1000)(hn:∀t∈ts,0<t.2.length):yE [.int (p:Int),.lst (ts.map tlD)]=.ok (.lst ((jY p ts).map tlD)):=by
 have st:zX 2 [.int (p:Int),.lst (ts.map tlD)]=[some (.val (.int (p:Int))),some (.val (.lst (ts.map tlD)))]:=rfl
 have cf:=wk (set:=gNm 0) (ft:=(FD.tB (eOp gtD (eOp ixD (eOp ixD (ze 0) (eC (.int 1))) (eC (.int 0))) (ze 1)))) (fe:=(wO (za (eOp zW (eOp ixD (ze 0) (eC (.int 0))) (zr xh (za (ze 1) (za (eOp ixD (eOp ixD (ze 0) (eC (.int 1))) (eC (.int 0))) zj)))) (za (eOp ixD (ze 0) (eC (.int 1))) zj)))) (τ:=[none,some (.val (.int (p:Int)))])
  tlD (fun t=>tlD (t.1+ZG p (t.2.getD 0 0),t.2)) (fun t=>decide (p<t.2.getD 0 0)) ts fun t ht=>by
   refine⟨[some (.val (tlD t)),some (.val (.int (p:Int)))],rfl,?_,?_⟩
   ·have:=WA t.2 (hn t ht)
    refine wU (op2 (op2 (op2 (zo rfl) rfl (JV t)) rfl this) (zo rfl) ?_)
    rw[JD]
    congr 2
    exact decide_eq_decide.mpr (by lia)
   ·have:=WA t.2 (hn t ht)
    exact VZ (op2 (op2 (zo rfl) rfl (JW t)) (uP (zo rfl) (op2 (op2 (zo rfl) rfl (JV t)) rfl this) (T9 p _)) (xT)) (op2 (zo rfl) rfl (JV t))
 have hlen:((ts.filter fun t=>decide (p<t.2.getD 0 0)).map fun t=>tlD (t.1+ZG p (t.2.getD 0 0),t.2)).length≤1000:=by
  rw[length_map]
  have:=length_filter_le (fun t:Tl=>decide (p<t.2.getD 0 0)) ts
  lia
 have it:wb (ze 1) [some (.val (.int (p:Int))),some (.val (.lst (ts.map tlD)))]=.ok (ts.map tlD):=rfl
 have ec:=wI (k:=1) (idx:=[0]) (τ:=[some (.val (.int (p:Int))),some (.val (.lst (ts.map tlD)))]) it cf hlen
 unfold yE uQ
 rw[yc,st,zZ]
 simp only[ec,Rs.bind_ok,Fl.of_ok,zT]
 unfold jY
 rw[map_map]
 rfl
noncomputable def Zt:FS:=(sIf (ux (zr xH (za (ze 0) (za (eOp ixD (ze 1) (ze 4)) zj)))) (zS (y3 5 (zr zR (za (zr yE (za (ze 4) (za (ze 2) zj))) zj)))
  (sIf (FD.tB (eOp ub (ze 5) (eC .non))) (Xg 3 (wO (za (eOp zW (zr yx (za (ze 0) (za (ze 1) (za (ze 4) zj)))) (eOp ixD (ze 5) (eC (.int 0)))) (za (eOp zW (vJ (za (ze 4) zj)) (eOp ixD (ze 5) (eC (.int 1)))) zj)))) yj)) yj)
theorem QF(p:Nat)(l:List Nat)(h:l.length≤1000):zW (.lst [.int (p:Int)]) (nts l)=.ok (nts (p::l)):=by
 show(if _ then Rs.ok (D.lst _) else Rs.no)=_
 rw[if_pos (by rw[zL,length_map,List.length_singleton];lia)]
 rfl
theorem G1(p:Nat)(ts:List Tl):∀t,ji (jY p ts) none=some t→∃u∈ts,t.2=u.2:=fun t h=>by
 rcases vS _ _ _ h with g|g
 ·simp only[jY,mem_map,mem_filter] at g
  obtain⟨u,⟨g1,_⟩,rfl⟩:=g
  exact⟨u,g1,rfl⟩
 ·cases g
theorem La(a:Nat)(x:List Nat)(ts acc:List Tl)(p:Nat)(s5:Option Sl)(ha:a<128)(hx:x.length≤1000)(hs:ts.length≤1000)(hn:∀t∈ts,0<t.2.length∧t.2.length≤1000)(hp:p<x.length)(hc:acc.length≤1000) :
  ∃s',Zt [some (.val (zD a)),some (.val (tx x)),some (.val (.lst (ts.map tlD))),some (.own (acc.map tlD)),some (.val (.int (p:Int))),s5]=.nx [some (.val (zD a)),some (.val (tx x)),some (.val (.lst (ts.map tlD))),some (.own ((acc++(YK a x ts p).toList).map tlD)),some (.val (.int (p:Int))),s']:=by
 have hm:=YG a (x.getD p 0) ha
 have hlk:=Ql p ts hs fun t ht=>(hn t ht).1
 have hfm:=L5 (jY p ts)
 have how:=GB a x p hx hp
 have hix:=Xy x p hp hx
 have hsz:(acc.map tlD).length<sizeLine:=by rw[zL,length_map];lia
 unfold Zt YK
 generalize xH=fa at hm ⊢
 generalize yE=fb at hlk ⊢
 generalize zR=fc at hfm ⊢
 generalize yx=fd at how ⊢
 by_cases h:xk a (x.getD p 0)=true
 ·rw[if_pos h]
  rw[h] at hm
  cases e:ji (jY p ts) none with
  |none=>
   rw[e] at hfm
   refine⟨some (.val .non),?_⟩
   simp only[zP,yb,yw,zU,vm,xL,wB,yf,zK,yG,zO,zA,yz,getElem?_cons_zero,getElem?_cons_succ,set_cons_succ,set_cons_zero,zE,yX,Rs.bind_ok,Fl.of_ok,yh,xz,zV,vj,if_true,Bool.false_eq_true,if_false,hix,hm,hlk,hfm,jc,X4,Option.map_none,Option.toList_none,append_nil]
  |some t=>
   rw[e] at hfm
   obtain⟨u,u1,u2⟩:=G1 p ts t e
   have hct:=QF p t.2 (by rw[u2];exact(hn u u1).2)
   refine⟨some (.val (tlD t)),?_⟩
   have tp:wO (za (eOp zW (zr fd (za (ze 0) (za (ze 1) (za (ze 4) zj)))) (eOp ixD (ze 5) (eC (.int 0)))) (za (eOp zW (vJ (za (ze 4) zj)) (eOp ixD (ze 5) (eC (.int 1)))) zj)) [some (.val (zD a)),some (.val (tx x)),some (.val (.lst (ts.map tlD))),some (.own (acc.map tlD)),some (.val (.int (p:Int))),some (.val (tlD t))]=.ok (tlD (ZV a x p+t.1,p::t.2)):=
    VZ (op2 (uq (zo rfl) (zo rfl) (zo rfl) how) (op2 (zo rfl) rfl (JW t)) xT) (op2 (GY (zo rfl)) (op2 (zo rfl) rfl (JV t)) hct)
   simp only[zP,yb,yw,zU,vm,xL,wB,yf,zK,yG,zO,zA,yz,getElem?_cons_zero,getElem?_cons_succ,set_cons_succ,set_cons_zero,zE,yX,Rs.bind_ok,Fl.of_ok,yh,xz,zV,vj,if_true,hix,hm,hlk,hfm,jc,VB,tp,hsz,Option.map_some,Option.toList_some,map_append,map_cons,map_nil]
 ·have h':xk a (x.getD p 0)=false:=by simpa using h
  rw[h'] at hm
  rw[if_neg h]
  refine⟨s5,?_⟩
  simp only[zP,yb,yw,zU,wB,yf,zK,zO,zA,yz,getElem?_cons_zero,getElem?_cons_succ,set_cons_succ,set_cons_zero,zE,Rs.bind_ok,Fl.of_ok,xz,vj,Bool.false_eq_true,if_false,hix,hm,Option.toList_none,append_nil]
theorem YX(f:Nat→Option Tl)(k:Nat):(List.range (k+1)).filterMap f=(List.range k).filterMap f++(f k).toList:=by
 rw[List.range_succ,List.filterMap_append]
 simp only[List.filterMap_cons,List.filterMap_nil]
 cases h:f k <;> rfl
theorem XW(f:Nat→Option Tl)(k:Nat):((List.range k).filterMap f).length≤k:=by
 have:=List.length_filterMap_le f (List.range k)
 rwa [length_range] at this
theorem Lb(a:Nat)(x:List Nat)(ts:List Tl)(ha:a<128)(hx:x.length≤1000)(hs:ts.length≤1000)(hn:∀t∈ts,0<t.2.length∧t.2.length≤1000) :
  ∃s4 s5,y7 (gNm 4) Zt ((List.range x.length).map fun (k:Nat)=>D.int (0+k)) [some (.val (zD a)),some (.val (tx x)),some (.val (.lst (ts.map tlD))),some (.own []),none,none]=.nx [some (.val (zD a)),some (.val (tx x)),some (.val (.lst (ts.map tlD))),some (.own ((XX a x ts).map tlD)),s4,s5]:=by
 obtain⟨τ',h1,s4,s5,h2⟩:=Zs (set:=gNm 4) (body:=Zt) (fun (k:Nat)=>D.int (0+k)) (fun k τ=>∃s4 s5,τ=[some (.val (zD a)),some (.val (tx x)),some (.val (.lst (ts.map tlD))),some (.own (((List.range k).filterMap (YK a x ts)).map tlD)),s4,s5]) x.length
  [some (.val (zD a)),some (.val (tx x)),some (.val (.lst (ts.map tlD))),some (.own []),none,none] ⟨_,_,rfl⟩ fun k τ hk z_=>by
   obtain⟨s4,s5,e⟩:=z_
   subst e
   obtain⟨s',g⟩:=La a x ts ((List.range k).filterMap (YK a x ts)) k s5 ha hx hs hn hk (by have:=XW (YK a x ts) k;lia)
   have e0:(0:Int)+(k:Int)=(k:Int):=by lia
   rw[YX]
   exact⟨_,_,by rw[e0];exact jC,g,_,_,rfl⟩
 subst h2
 exact⟨s4,s5,h1⟩
theorem zh0(bd:FS)(ri:FA)(A B C:D)(n:Nat)(P:List D)(s4 s5:Option Sl)(r1:ri [some (.val A),some (.val B),some (.val C),some (.own []),none,none]=.ok ((List.range n).map fun (k:Nat)=>D.int (0+k)))
  (h1:y7 (gNm 4) bd ((List.range n).map fun (k:Nat)=>D.int (0+k)) [some (.val A),some (.val B),some (.val C),some (.own []),none,none]=.nx [some (.val A),some (.val B),some (.val C),some (.own P),s4,s5]) :
  xG 6 (zS (vN 3 (fun τ=>(zj τ).bind fun ds=>if ds.length≤sizeLine then .ok ds else .no)) (zS (ut ri (gNm 4) bd) (ul 3))) [A,B,C]=.ok (.lst P):=by
 have st:zX 6 [A,B,C]=[some (.val A),some (.val B),some (.val C),none,none,none]:=rfl
 rw[yc,st]
 simp only[zP,wJ,wK,wL,vY,zO,getElem?_cons_zero,getElem?_cons_succ,set_cons_succ,set_cons_zero,yX,Rs.bind_ok,Fl.of_ok,yh,zT,if_true,length_nil,zero_le,r1,h1]
theorem GZ:vf=(zS (vN 3 (fun τ=>(zj τ).bind fun ds=>if ds.length≤sizeLine then .ok ds else .no)) (zS (ut (wM (za (yZ xj (za (ze 1) zj)) zj)) (gNm 4) Zt) (ul 3))):=by unfold vf Zt;rfl
theorem Qk(a:Nat)(x:List Nat)(ts:List Tl)(ha:a<128)(hx:x.length≤1000)(hs:ts.length≤1000)(hn:∀t∈ts,0<t.2.length∧t.2.length≤1000):yW [zD a,tx x,.lst (ts.map tlD)]=.ok (.lst ((XX a x ts).map tlD)):=by
 obtain⟨s4,s5,h1⟩:=Lb a x ts ha hx hs hn
 unfold yW
 rw[GZ]
 exact zh0 _ _ _ _ _ x.length _ _ _ (Yl (Xs (zo rfl) (vb x hx)) hx) h1
theorem XC(x:List Nat):∀q:List Nat,(yS q x).length≤x.length
 |[]=>by simp[yS]
 |[a]=>by
  simp only[yS,YM,length_map]
  have:=length_filter_le (fun p=>xk a (x.getD p 0)) (List.range x.length)
  rwa [length_range] at this
 |a::b::q=>by simp only[yS,XX];exact XW _ _
theorem WU(q x:List Nat)(hq:q≠[])(hl:q.length≤1000):∀t∈yS q x,0<t.2.length∧t.2.length≤1000:=fun t ht=>by
 have:=(uw x q t ht).1.len
 have:0<q.length:=List.length_pos_iff.mpr hq
 lia
noncomputable def Y8:FS:=(y3 2 (zr yW (za (eOp ixD (ze 0) (ze 3)) (za (ze 1) (za (ze 2) zj)))))
theorem LC(q x:List Nat)(m:Nat)(hm:q.length=m+1)(hq:q.length≤1000)(hx:x.length≤1000)(ha:∀c∈q,c<128) :
  ∃s,y7 (gNm 3) Y8 (ZD ((m:Int)-1) m) [some (.val (tx q)),some (.val (tx x)),some (.val (.lst ((yS (q.drop m) x).map tlD))),none]=.nx [some (.val (tx q)),some (.val (tx x)),some (.val (.lst ((yS q x).map tlD))),s]:=by
 obtain⟨τ',h1,s,h2⟩:=Zs (set:=gNm 3) (body:=Y8) (fun (k:Nat)=>D.int ((m:Int)-1-k)) (fun k τ=>∃s,τ=[some (.val (tx q)),some (.val (tx x)),some (.val (.lst ((yS (q.drop (m-k)) x).map tlD))),s]) m
  [some (.val (tx q)),some (.val (tx x)),some (.val (.lst ((yS (q.drop m) x).map tlD))),none] ⟨_,rfl⟩ fun k τ hk z_=>by
   obtain⟨s,e⟩:=z_
   subst e
   obtain⟨j,hj⟩:∃j,m=j+1+k:=⟨m-1-k,by lia⟩
   have e0:(m:Int)-1-(k:Int)=(j:Int):=by lia
   have d1:q.drop (m-k)=q.drop (j+1):=by congr 1;lia
   have d2:q.drop (m-(k+1))=q.drop j:=by congr 1;lia
   have hjq:j<q.length:=by lia
   have hne:q.drop (j+1)≠[]:=fun h=>by
    have:=congrArg List.length h
    rw[length_drop] at this;simp at this;lia
   have hlg:=Qk (q.getD j 0) x (yS (q.drop (j+1)) x) (ha _ (mem_of_getElem? (j0 q j hjq))) hx (by have:=XC x (q.drop (j+1));lia) (WU _ x hne (by rw[length_drop];lia))
   have ht:XX (q.getD j 0) x (yS (q.drop (j+1)) x)=yS (q.drop j) x:=by
    have e1:q.drop j=q.getD j 0::q.drop (j+1):=by
     rw[drop_eq_getElem_cons hjq,getD_eq_getElem?_getD,getElem?_eq_getElem hjq];rfl
    rw[e1]
    cases e2:q.drop (j+1) with
    |nil=>exact absurd e2 hne
    |cons b r=>rfl
   rw[ht] at hlg
   rw[d1,d2]
   refine⟨[some (.val (tx q)),some (.val (tx x)),some (.val (.lst ((yS (q.drop (j+1)) x).map tlD))),some (.val (.int (j:Int)))],[some (.val (tx q)),some (.val (tx x)),some (.val (.lst ((yS (q.drop j) x).map tlD))),some (.val (.int (j:Int)))],by rw[e0];rfl,?_,_,rfl⟩
   unfold Y8
   rw[yb,uq (op2 (zo rfl) (zo rfl) (Xy q j hjq hq)) (zo rfl) (zo rfl) hlg,Fl.of_ok]
   rfl
 subst h2
 refine⟨s,?_⟩
 rw[Nat.sub_self,drop_zero] at h1
 exact h1
noncomputable def ldE:FE:=(fun τ=>((xI 1 [] (wb (ze 2)) (gNm 0) (fun _=>.ok true) (wO (za (eOp zW (eOp ixD (ze 0) (eC (.int 0))) (zr yO (za (eOp ixD (eOp ixD (ze 0) (eC (.int 1))) (eC (.int 0))) zj))) (za (eOp ixD (ze 0) (eC (.int 1))) zj)))) τ).bind fun ds=>.ok (.lst ds))
theorem ld_ok(A B:D)(ts:List Tl)(s:Option Sl)(hs:ts.length≤1000)(hn:∀t∈ts,0<t.2.length):ldE [some (.val A),some (.val B),some (.val (.lst (ts.map tlD))),s]=.ok (.lst ((ts.map Jq).map tlD)):=by
 have cf:=vT (set:=gNm 0) (fe:=(wO (za (eOp zW (eOp ixD (ze 0) (eC (.int 0))) (zr yO (za (eOp ixD (eOp ixD (ze 0) (eC (.int 1))) (eC (.int 0))) zj))) (za (eOp ixD (ze 0) (eC (.int 1))) zj)))) (τ:=[none]) tlD tlD Jq ts fun t ht=>by
   refine⟨[some (.val (tlD t))],rfl,?_⟩
   have:=WA t.2 (hn t ht)
   exact VZ (op2 (op2 (zo rfl) rfl (JW t)) (VV (op2 (op2 (zo rfl) rfl (JV t)) rfl this) (Ld _)) xT) (op2 (zo rfl) rfl (JV t))
 have it:wb (ze 2) [some (.val A),some (.val B),some (.val (.lst (ts.map tlD))),s]=.ok (ts.map tlD):=rfl
 have ec:=wI (k:=1) (idx:=[]) (τ:=[some (.val A),some (.val B),some (.val (.lst (ts.map tlD))),s]) it cf (by simpa using hs)
 unfold ldE
 simp only[ec,Rs.bind_ok]
theorem MJ:UF=(zS (sIf (FD.tB (eOp eqD (yZ xj (za (ze 0) zj)) (eC (.int 0)))) (yK (wO (za (eC (.int 0)) (za (vJ zj) zj)))) yj)
  (zS (y3 2 (zr yi (za (eOp ixD (ze 0) (wP (eC (.int 1)))) (za (ze 1) zj))))
  (zS (ut (Qt (za (eOp jL (yZ xj (za (ze 0) zj)) (eC (.int 2))) (za (wP (eC (.int 1))) (za (wP (eC (.int 1))) zj)))) (gNm 3) Y8)
  (yK (zr zR (za ldE zj)))))):=by unfold UF Y8 ldE;rfl
theorem ze8(q:List Nat)(m:Nat)(hm:q.length=m+1)(hq:q.length≤1000):ixD (tx q) (.int (-1))=.ok (zD (q.getD m 0)):=by
 refine Z8 ?_ (by rw[ve,zL];lia)
 have e:ixN q.length (-1)=some m:=by
  unfold ixN
  rw[if_neg (by lia),if_pos (by lia)]
  congr 1;lia
 unfold atI
 show(ixN q.length (-1)).bind _=_
 rw[e]
 exact j0 q m (by lia)
theorem bs_r3(q x:List Nat)(T:D)(m:Nat)(hm:q.length=m+1)(hq:q.length≤1000):Qt (za (eOp jL (yZ xj (za (ze 0) zj)) (eC (.int 2))) (za (wP (eC (.int 1))) (za (wP (eC (.int 1))) zj))) [some (.val (tx q)),some (.val (tx x)),some (.val T),none]=.ok (ZD ((m:Int)-1) m):=by
 have a1:eOp jL (yZ xj (za (ze 0) zj)) (eC (.int 2)) [some (.val (tx q)),some (.val (tx x)),some (.val T),none]=.ok (.int ((m:Int)-1)):=by
  refine op2 (Xs (zo rfl) (vb q hq)) rfl ?_
  rw[vD];congr 2;lia
 have a2:∀τ,wP (eC (.int 1)) τ=.ok (.int (-1)):=fun τ=>rfl
 have r3:=zb0 (fs:=za (eOp jL (yZ xj (za (ze 0) zj)) (eC (.int 2))) (za (wP (eC (.int 1))) (za (wP (eC (.int 1))) zj))) (τ:=[some (.val (tx q)),some (.val (tx x)),some (.val T),none]) (i:=(m:Int)-1) (j:=-1)
  (by rw[zA,a1,Rs.bind_ok,zA,a2,Rs.bind_ok,zA,a2,Rs.bind_ok,zO,Rs.bind_ok,Rs.bind_ok,Rs.bind_ok]) (by lia) (by lia) (by lia) (by lia)
 rw[r3]
 congr 2
 lia
theorem zh1(g1:FT)(g2:FS)(e1 e2:FE)(r3:FA)(bd:FS)(A B T T' R:D)(L:List D)(s:Option Sl)(h0:g1 [some (.val A),some (.val B),none,none]=.ok false)(h1:e1 [some (.val A),some (.val B),none,none]=.ok T)(h2:r3 [some (.val A),some (.val B),some (.val T),none]=.ok L)(h3:y7 (gNm 3) bd L [some (.val A),some (.val B),some (.val T),none]=.nx [some (.val A),some (.val B),some (.val T'),s])(h4:e2 [some (.val A),some (.val B),some (.val T'),s]=.ok R) :
  xG 4 (zS (sIf g1 g2 yj) (zS (y3 2 e1) (zS (ut r3 (gNm 3) bd) (yK e2)))) [A,B]=.ok R:=by
 have st:zX 4 [A,B]=[some (.val A),some (.val B),none,none]:=rfl
 rw[yc,st]
 simp only[zP,yb,yw,zZ,zU,vY,set_cons_succ,set_cons_zero,Fl.of_ok,yh,zT,Bool.false_eq_true,if_false,h0,h1,h2,h3,h4]
theorem LD(q x:List Nat)(hne:q≠[])(hq:q.length≤1000)(hx:x.length≤1000)(ha:∀c∈q,c<128):vH [tx q,tx x]=.ok (jc (Y9 q x)):=by
 have hpos:0<q.length:=List.length_pos_iff.mpr hne
 obtain⟨m,hm⟩:∃m,q.length=m+1:=⟨q.length-1,by lia⟩
 obtain⟨s,hl⟩:=LC q x m hm hq hx ha
 have hmem:q.getD m 0∈q:=mem_of_getElem? (j0 q m (by lia))
 have d:yS (q.drop m) x=YM (q.getD m 0) x:=by
  have e1:q.drop m=[q.getD m 0]:=by
   rw[drop_eq_getElem_cons (by lia),getD_eq_getElem?_getD,getElem?_eq_getElem (by lia:m<q.length),List.drop_eq_nil_of_le (by lia)];rfl
  rw[e1];rfl
 rw[d] at hl
 have h0:FD.tB (eOp eqD (yZ xj (za (ze 0) zj)) (eC (.int 0))) [some (.val (tx q)),some (.val (tx x)),none,none]=.ok false:=by
  refine wU (op2 (Xs (zo rfl) (vb q hq)) rfl ?_)
  rw[up]
  congr 2
  simp;exact hne
 have h1:zr yi (za (eOp ixD (ze 0) (wP (eC (.int 1)))) (za (ze 1) zj)) [some (.val (tx q)),some (.val (tx x)),none,none]=.ok (.lst ((YM (q.getD m 0) x).map tlD)):=
  uP (op2 (zo rfl) rfl (ze8 q m hm hq)) (zo rfl) (Xp _ x (ha _ hmem) hx)
 have h4:zr zR (za ldE zj) [some (.val (tx q)),some (.val (tx x)),some (.val (.lst ((yS q x).map tlD))),s]=.ok (jc (Y9 q x)):=
  VV (ld_ok _ _ _ _ (by have:=XC x q;lia) fun t ht=>(WU q x hne hq t ht).1) (L5 _)
 unfold vH
 rw[MJ]
 exact zh1 _ _ _ _ _ _ _ _ _ _ _ _ _ h0 h1 (bs_r3 q x _ m hm hq) hl h4
theorem zb1(q:List Nat)(hq:q.length≤1000):Q8 (tx q)=.ok (tx q.reverse):=by
 simp only[Q8]
 rw[if_pos (by rw[ve,zL];lia)]
noncomputable abbrev hd0(t:Tl):Nat:=t.2.getD 0 0
noncomputable def Srt(ts:List Tl):Prop:=ts.Pairwise fun a b=>hd0 a<hd0 b
theorem QI(q x:List Nat)(hq:q≠[])(h:vM q x=false):Y9 q x=none:=by
 cases e:Y9 q x with
 |none=>rfl
 |some t=>
  have:=YL x q t.2 (UD q x hq t.1 t.2 e).1
  rw[h] at this;cases this
noncomputable def j6(q x:List Nat):Option Tl:=if q=[] then some (0,[]) else Y9 q x
theorem UE(q x:List Nat)(h:vM q x=false):j6 q x=none:=by
 unfold j6
 by_cases hq:q=[]
 ·subst hq;cases x <;> simp[vM] at h
 ·rw[if_neg hq];exact QI q x hq h
end Law
set_option Elab.async false
set_option linter.all false
set_option maxHeartbeats 1000000
namespace FD
open PySem PySem.Spec PyProof.Rows L2
theorem sl_ok{fe:FE}{fl fh:FO}{τ:DS}{d r:D}{l u:Option Int}(h1:fe τ=.ok d)(h2:fl τ=.ok l)(h3:fh τ=.ok u)(h:slD d l u=.ok r):eSl fe fl fh τ=.ok r:=by
 rw[WK,h1,Rs.bind_ok,h2,Rs.bind_ok,h3,Rs.bind_ok,h]
theorem or_tr{f g:FT}{τ:DS}{b:Bool}(h1:f τ=.ok false)(h2:g τ=.ok b):WV f g τ=.ok b:=by rw[uy,h1,Rs.bind_ok,if_neg (by simp),h2]
end FD
namespace Law
open PySem PySem.Spec PyProof.Rows L2 FD
theorem zi6(a b:List Nat)(ha:a.length≤1000)(hb:b.length≤1000):zW (tx a) (tx b)=.ok (tx (a++b)):=by
 rw[UI (by rw[ve,ve,zL];lia),UP]
theorem T0{τ:DS}:vJ zj τ=.ok (.lst []):=by
 rw[WL,zO,Rs.bind_ok];exact if_pos (zero_le _)
theorem MQ(q x:List Nat)(hq:q.length≤1000)(hx:x.length≤1000)(ha:∀c∈q,c<128):vH [tx q,tx x]=.ok (jc (j6 q x)):=by
 by_cases z:q=[]
 ·subst z
  have st:zX 4 [tx [],tx x]=[some (.val (tx [])),some (.val (tx x)),none,none]:=rfl
  have hl:=vb [] (by simp)
  have hg:FD.tB (eOp eqD (yZ xj (za (ze 0) zj)) (eC (.int 0))) [some (.val (tx [])),some (.val (tx x)),none,none]=.ok true:=wU (op2 (Xs (zo rfl) hl) rfl rfl)
  have he:wO (za (eC (.int 0)) (za (vJ zj) zj)) [some (.val (tx [])),some (.val (tx x)),none,none]=.ok (.tup [.int 0,.lst []]):=VZ rfl T0
  unfold vH
  rw[MJ,yc,st,zP,yw,hg,Fl.of_ok,if_pos rfl,zZ,he]
  rfl
 ·have:=LD q x z hq hx ha
  rw[this]
  unfold j6
  rw[if_neg z]
theorem Qy(fc:FA)(g:FT)(fx:FE)(A B C:D)(L:List D)(b:Bool)(d:D)(h1:fc [some (.val A),some (.val B),some (.val C),none]=.ok L)(h2:g [some (.val A),some (.val B),some (.val C),some (.own L)]=.ok b)
  (h3:b=true→fx [some (.val A),some (.val B),some (.val C),some (.own L)]=.ok d∧0<L.length) :
  xG 4 (zS (vN 3 fc) (zS (sIf g (J2 3 (eC (.int 0)) fx) yj) (ul 3))) [A,B,C]=.ok (.lst (if b=true then L.set 0 d else L)):=by
 have st:zX 4 [A,B,C]=[some (.val A),some (.val B),some (.val C),none]:=rfl
 rw[yc,st]
 cases b with
 |false=>simp only[zP,wJ,yw,wK,wL,zU,Wn,yG,getElem?_cons_zero,getElem?_cons_succ,set_cons_succ,set_cons_zero,yX,Fl.of_ok,yh,zT,Bool.false_eq_true,if_false,h1,h2,wJ,wK,wL,yX,Bool.false_eq_true,if_false]
 |true=>
  obtain⟨h3,h4⟩:=h3 rfl
  have hp:=Gf (n:=3) (τ:=[some (.val A),some (.val B),some (.val C),some (.own L)]) (d:=d) (j:=0) h4
  have e0:(((0:Nat):Int))=0:=rfl
  rw[e0] at hp
  simp only[zP,wJ,yw,wK,wL,zU,Wn,yG,getElem?_cons_zero,getElem?_cons_succ,set_cons_succ,set_cons_zero,yX,Fl.of_ok,yh,zT,if_true,h1,h2,h3,wJ,wK,wL,yX,Wn,hp]
theorem zf0:uh=(zS (vN 3 (xI 1 [0,1] (wM (za (zr zv (za (ze 0) (za (ze 1) (za (eOp zW (ze 2) (eC (.int 1))) zj)))) zj)) (gNm 0) (fun _=>.ok true) (zr xl (za (ze 1) (za (eOp zW (eOp zW (ze 2) (eC (.int 1))) (eOp uF (eC (.int 12)) (ze 0))) zj)))))
  (zS (sIf (wl (FD.tB (eOp gtD (j4 3) (eC (.int 1)))) (FD.tB (eOp eqD (zr zv (za (ze 0) (za (eOp zW (ze 1) (eC (.int 12))) (za (eC (.int 5)) zj)))) (eC (.int 0))))) (J2 3 (eC (.int 0)) (QA 3 (wP (eC (.int 1))))) yj)
  (ul 3))):=by unfold uh;rfl
noncomputable def QJ(x:List Nat):Prop:=0<x.length∧x.length≤10∧∀c∈x,c∈NS
theorem GU(ns:List Int)(a:Int)(h0:0≤a):QJ (vx ns a (XT ns a)):=by
 have d:=wH ns a (m:=10) (by decide)
 have hl:(vx ns a (XT ns a)).length=(1+xV ns a 10).toNat:=by simp[vx,XT]
 refine⟨by rw[hl];lia,by rw[hl];lia,fun c hc=>?_⟩
 obtain⟨k,_,rfl⟩:=mem_map.mp hc
 exact Qg ns a k (by lia)
theorem and_b{f g:FT}{τ:DS}{b c:Bool}(h1:f τ=.ok b)(h2:b=true→g τ=.ok c):wl f g τ=.ok (b&&c):=by
 rw[wC,h1,Rs.bind_ok]
 cases b with
 |false=>rfl
 |true=>rw[if_pos rfl,h2 rfl];rfl
theorem GT(ns:List Int)(a most:Int)(h63:ns.length≤63)(h0:0≤a)(ha:a<800000)(hm0:0≤most)(hm1:most<50) :
  ∃X:List (List Nat),xC [.scr ns,.int a,.int most]=.ok (.lst (X.map tx))∧(X.length:Int)≤most∧∀x∈X,QJ x:=by
 have dl:=wH ns a (m:=most+1) (by lia)
 have dk:=wG ns a (most+1) h63 h0 (by lia) (by lia)
 have dk2:=wG ns (a+12) 5 h63 (by lia) (by lia) (by decide)
 generalize hN:xV ns a (most+1)=N at *
 generalize xV ns (a+12) 5=M at *
 have cf:=vT (set:=gNm 0) (fe:=(zr xl (za (ze 1) (za (eOp zW (eOp zW (ze 2) (eC (.int 1))) (eOp uF (eC (.int 12)) (ze 0))) zj)))) (τ:=[none,some (.val (.scr ns)),some (.val (.int a))]) (fun (k:Nat)=>D.int (0+k)) tx
  (fun k=>vx ns (a+1+12*(k:Int)) (XT ns (a+1+12*(k:Int)))) (List.range N.toNat) fun k hk=>by
   have hk:=mem_range.mp hk
   refine⟨[some (.val (.int (k:Int))),some (.val (.scr ns)),some (.val (.int a))],by rw[Int.zero_add];rfl,?_⟩
   exact uP (zo rfl) (op2 (op2 (zo rfl) rfl xT) (op2 rfl (zo rfl) (uE (by lia))) xT) (T2 ns _ h63 (by lia) (by lia))
 have it:wM (za (zr zv (za (ze 0) (za (ze 1) (za (eOp zW (ze 2) (eC (.int 1))) zj)))) zj) [some (.val (.scr ns)),some (.val (.int a)),some (.val (.int most)),none]=.ok ((List.range N.toNat).map fun (k:Nat)=>D.int (0+k)):=
  Yl (n:=N.toNat) (by rw[Int.toNat_of_nonneg dl.1];exact uq (zo rfl) (zo rfl) (op2 (zo rfl) rfl xT) dk) (by lia)
 have ec:=wI (k:=1) (idx:=[0,1]) it cf (by simp;lia)
 generalize hX0:(List.range N.toNat).map (fun (k:Nat)=>vx ns (a+1+12*(k:Int)) (XT ns (a+1+12*(k:Int))))=X0 at ec cf
 have l0:X0.length=N.toNat:=by rw[← hX0];simp
 have ok0:∀x∈X0,QJ x:=fun x hx=>by
  rw[← hX0] at hx
  obtain⟨k,_,rfl⟩:=mem_map.mp hx
  exact GU ns _ (by lia)
 have hg:wl (FD.tB (eOp gtD (j4 3) (eC (.int 1)))) (FD.tB (eOp eqD (zr zv (za (ze 0) (za (eOp zW (ze 1) (eC (.int 12))) (za (eC (.int 5)) zj)))) (eC (.int 0)))) [some (.val (.scr ns)),some (.val (.int a)),some (.val (.int most)),some (.own (X0.map tx))]=.ok (decide (1<(X0.length:Int))&&(M==0)):=
  and_b (wU (op2 (a:=.int (X0.length:Int)) (by rw[j3];show Rs.ok (D.int ((X0.map tx).length:Int))=_;rw[length_map]) rfl JD)) fun _=>wU (op2 (uq (zo rfl) (op2 (zo rfl) rfl xT) rfl dk2) rfl up)
 have hne:(decide (1<(X0.length:Int))&&(M==0))=true→0<X0.length:=fun h=>by
  rw[Bool.and_eq_true,decide_eq_true_eq] at h;lia
 have e:=Qy _ _ (QA 3 (wP (eC (.int 1)))) (.scr ns) (.int a) (.int most) (X0.map tx) _ (tx (X0.getD (X0.length-1) [])) ec hg fun h=>by
  have hp:=hne h
  refine⟨?_,by rw[length_map];exact hp⟩
  rw[Lx]
  show(Rs.ok (X0.map tx)).bind (fun ds=>(wP (eC (.int 1)) _).bind (ixO ds))=_
  rw[Rs.bind_ok,Yc,yG,Rs.bind_ok]
  show(Rs.ok (D.int (-1))).bind _=_
  rw[Rs.bind_ok]
  unfold ixO
  have:atI (X0.map tx) (-1)=some (tx (X0.getD (X0.length-1) [])):=by
   have e:ixN (X0.map tx).length (-1)=some (X0.length-1):=by
    unfold ixN
    rw[length_map,if_neg (by lia),if_pos (by lia)]
    congr 1;lia
   unfold atI
   rw[e]
   show(X0.map tx)[X0.length-1]?=_
   rw[getElem?_map,getElem?_eq_getElem (by lia)]
   simp[show X0.length-1<X0.length by lia]
  simp only[this]
 unfold xC
 rw[zf0,e]
 cases hb:(decide (1<(X0.length:Int))&&(M==0)) with
 |false=>exact⟨X0,by rw[if_neg (by simp)],by lia,ok0⟩
 |true=>
  have hp:=hne hb
  refine⟨X0.set 0 (X0.getD (X0.length-1) []),by rw[if_pos rfl,List.map_set],by rw[length_set];lia,fun x hx=>?_⟩
  rcases List.mem_or_eq_of_mem_set hx with h|h
  ·exact ok0 x h
  ·rw[h]
   have:X0.getD (X0.length-1) []=X0[X0.length-1]'(by lia):=by simp[show X0.length-1<X0.length by lia]
   rw[this]
   exact ok0 _ (getElem_mem _)
theorem VG{α β:Type}(f:α→β)(x:List Int×α):∀l:List (List Int×α),YR (x.1,f x.2) (l.map fun p=>(p.1,f p.2))=(YR x l).map fun p=>(p.1,f p.2):=by
 intro l_
 induction l_ with
 |nil=>
  exact rfl
 |cons y r ih_=>
  rw[map_cons,YR,YR]
  split
  ·rfl
  ·rw[ih_];rfl
theorem XG{α β:Type}(f:α→β):∀l:List (List Int×α),xM (l.map fun p=>(p.1,f p.2))=(xM l).map fun p=>(p.1,f p.2):=by
 intro l_
 induction l_ with
 |nil=>
  exact rfl
 |cons x r ih_=>
  rw[map_cons,xM,xM,ih_,VG]
noncomputable def xD{α:Type}(key:α→List Int)(rs:List α):List α:=(xM (rs.map fun r=>(key r,r))).map (·.2)
theorem UR{α:Type}(key:α→List Int)(f:α→D)(rs:List α):(xM ((rs.map key).zip (rs.map f))).map (·.2)=(xD key rs).map f:=by
 have e:(rs.map key).zip (rs.map f)=(rs.map fun r=>(key r,r)).map fun p=>(p.1,f p.2):=by
  induction rs with
  |nil=>rfl
  |cons r rs ih=>simp only[map_cons,List.zip_cons_cons,ih]
 rw[e,XG]
 unfold xD
 rw[map_map,map_map];rfl
theorem xZ{α:Type}(key:α→List Int)(rs:List α):(xD key rs).Perm rs:=by
 have:=(vc (rs.map fun r=>(key r,r))).map (·.2)
 rw[map_map] at this
 have e:rs.map ((fun p:List Int×α=>p.2) ∘ fun r=>(key r,r))=rs:=by
  rw[show((fun p:List Int×α=>p.2) ∘ fun r=>(key r,r))=id from rfl,List.map_id]
 rw[e] at this
 exact this
theorem Yi{α:Type}(key:α→List Int)(rs:List α):∀p∈xM (rs.map fun r=>(key r,r)),p.1=key p.2:=fun p hp=>by
 have:=(vc (rs.map fun r=>(key r,r))).mem_iff.mp hp
 obtain⟨r,_,rfl⟩:=mem_map.mp this
 rfl
theorem XF{α:Type}(key:α→List Int)(rs:List α)(nd:(rs.map key).Nodup):(xD key rs).Pairwise fun a b=>lxI (key a) (key b)=true:=by
 have h:=Zf (rs.map fun r=>(key r,r)) (by rw[map_map];exact nd)
 unfold xD
 rw[pairwise_map]
 refine h.imp_of_mem fun {a b} ha hb q=>?_
 rw[← Yi key rs a ha,← Yi key rs b hb];exact q
theorem V1{α:Type}(key:α→List Int){l rs:List α}(p:l.Perm rs)(h:l.Pairwise fun a b=>lxI (key a) (key b)=true)(nd:(rs.map key).Nodup):l=xD key rs:=
 Zl (fun a b x y=>by rw[XU x] at y;cases y) (p.trans (xZ key rs).symm) h (XF key rs nd)
noncomputable def kD(k:List Int):D:=.tup (k.map D.int)
theorem X5:∀k:List Int,YQ (k.map D.int)=some k:=by
 intro l_
 induction l_ with
 |nil=>
  exact rfl
 |cons i k ih_=>
  show(YQ (k.map D.int)).map (i :: ·)=_
  rw[ih_];rfl
theorem zg1(k:List Int):Lg (kD k)=some k:=X5 k
theorem X1{α:Type}(key:α→List Int):∀rs:List α,ZL (rs.map fun r=>kD (key r))=some (rs.map key):=by
 intro l_
 induction l_ with
 |nil=>
  exact rfl
 |cons r rs ih_=>
  rw[map_cons,ZL,zg1,ih_];rfl
theorem V5{α:Type}(key:α→List Int)(f:α→D)(rs:List α)(h64:rs.length<64)(nd:(rs.map key).Nodup)(ne:∀r,key r≠[]):Zg (rs.map fun r=>kD (key r)) (rs.map f)=.ok (.lst ((xD key rs).map f)):=by
 unfold Zg
 rw[X1]
 simp only
 rw[if_pos ⟨by simpa using h64,nd,fun k hk=>by obtain⟨r,_,rfl⟩:=mem_map.mp hk;exact ne r⟩,UR]
theorem ZJ{α:Type}{idx:List Nat}{fb:FE}{τ:DS}(key:α→List Int)(f:α→D):∀rs:List α,(∀r∈rs,Qo idx fb τ (f r)=.ok (kD (key r)))→wZ idx fb τ (rs.map f)=.ok (rs.map fun r=>kD (key r)):=by
 intro l_
 induction l_ with
 |nil=>
  rintro _
  exact rfl
 |cons r rs ih_=>
  rintro h
  rw[map_cons,wZ,h r mem_cons_self]
  simp only[ih_ fun s hs=>h s (mem_cons_of_mem _ hs),map_cons]
theorem Uz{α:Type}{idx:List Nat}{fe fb:FE}{τ:DS}(key:α→List Int)(f:α→D)(rs:List α)(h:fe τ=.ok (.lst (rs.map f)))(hk:∀r∈rs,Qo idx fb τ (f r)=.ok (kD (key r)))(h64:rs.length<64)(nd:(rs.map key).Nodup)(ne:∀r,key r≠[]) :
  Y4 idx fe fb τ=.ok (.lst ((xD key rs).map f)):=by
 unfold Y4
 rw[h,Rs.bind_ok]
 simp only[ZJ key f rs hk]
 exact V5 key f rs h64 nd ne
noncomputable abbrev Rw:=Int×Nat
noncomputable def yR(r:Rw):D:=.tup [.int r.1,.int (r.2:Int)]
theorem row_0(r:Rw):ixD (yR r) (.int 0)=.ok (.int r.1):=rfl
theorem LP(r:Rw):ixD (yR r) (.int 1)=.ok (.int (r.2:Int)):=rfl
theorem XR{key:Rw→List Int}(hk:∀r s,key r=key s→r.2=s.2):∀rs:List Rw,(rs.map (·.2)).Nodup→(rs.map key).Nodup:=by
 intro l_
 induction l_ with
 |nil=>
  rintro _
  exact List.nodup_nil
 |cons r rs ih_=>
  rintro h
  rw[map_cons,nodup_cons] at h ⊢
  refine⟨fun hm=>h.1 ?_,ih_ h.2⟩
  obtain⟨s,hs,e⟩:=mem_map.mp hm
  exact mem_map.mpr ⟨s,hs,hk s r e⟩
noncomputable def wa(X:List (List Nat))(r:Rw):List Int:=[-r.1,((X.getD r.2 []).length:Int),(r.2:Int)]
theorem Ma(X:List (List Nat))(r s:Rw)(h:wa X r=wa X s):r.2=s.2:=by
 unfold wa at h
 injection h with h1 h2
 injection h2 with h2 h3
 injection h3 with h3 _
 lia
theorem size3:∀a b c:D,([a,b,c]:List D).length≤sizeLine:=fun a b c=>by rw[zL];exact Nat.le_of_ble_eq_true rfl
theorem tup3{fa fb fc:FE}{τ:DS}{a b c:D}(h1:fa τ=.ok a)(h2:fb τ=.ok b)(h3:fc τ=.ok c):wO (za fa (za fb (za fc zj))) τ=.ok (.tup [a,b,c]):=by
 rw[JF,zA,h1,Rs.bind_ok,zA,h2,Rs.bind_ok,zA,h3,Rs.bind_ok,zO,Rs.bind_ok,Rs.bind_ok,Rs.bind_ok,Rs.bind_ok]
 exact if_pos (size3 a b c)
theorem ze7{fa:FE}{τ:DS}{i:Int}(h:fa τ=.ok (.int i)):wP fa τ=.ok (.int (-i)):=by rw[Yc,h];rfl
theorem jV(X:List (List Nat))(i:Nat)(h:i<X.length):ixD (.lst (X.map tx)) (.int (i:Int))=.ok (tx (X.getD i [])):=by
 refine WF (JP ?_)
 rw[getElem?_map,getElem?_eq_getElem h]
 simp[h]
theorem MW(ds:List D)(n:Nat):slD (.lst ds) none (some (n:Int))=.ok (.lst (ds.take n)):=by
 have:FD.cutD ds none (some (n:Int))=ds.take n:=by
  have e0:HT.sIx ds.length 0 none=0:=rfl
  have e1:HT.sIx ds.length ds.length (some (n:Int))=min n ds.length:=by
   unfold HT.sIx
   have:¬ ((n:Int)<0):=by lia
   simp[this]
  unfold FD.cutD
  rw[e0,e1,drop_zero,Nat.sub_zero]
  rcases Nat.le_total n ds.length with z|z
  ·rw[Nat.min_eq_left z]
  ·rw[Nat.min_eq_right z,List.take_length,take_of_length_le z]
 show Rs.ok (D.lst (FD.cutD ds none (some (n:Int))))=_
 rw[this]
theorem TN:jF=(yK (Y4 [0] (ze 1) (wO (za (wP (eOp ixD (ze 0) (eC (.int 0)))) (za (yZ xj (za (eOp ixD (ze 1) (eOp ixD (ze 0) (eC (.int 1)))) zj)) (za (eOp ixD (ze 0) (eC (.int 1))) zj)))))):=by unfold jF;rfl
structure zj0(X:List (List Nat))(rs:List Rw):Prop where
 few:rs.length<64
 nd:(rs.map (·.2)).Nodup
 lt:∀r∈rs,r.2<X.length
 sz:∀x∈X,x.length≤1000
theorem getD_mem{X:List (List Nat)}{i:Nat}(h:i<X.length):X.getD i []∈X:=by
 have:X.getD i []=X[i]:=by simp[h]
 rw[this];exact getElem_mem _
theorem GC(X:List (List Nat))(rs:List Rw)(h:zj0 X rs):xR [.lst (X.map tx),.lst (rs.map yR)]=.ok (.lst ((xD (wa X) rs).map yR)):=by
 have st:zX 2 [.lst (X.map tx),.lst (rs.map yR)]=[some (.val (.lst (X.map tx))),some (.val (.lst (rs.map yR)))]:=rfl
 unfold xR
 rw[TN,yc,st,zZ,Uz (wa X) yR rs (zo rfl) (fun r hr=>?_) h.few (XR (Ma X) rs h.nd) (fun r z=>nomatch z)]
 ·rfl
 ·have hlt:=h.lt r hr
  have hsz:=h.sz _ (getD_mem hlt)
  have:wO (za (wP (eOp ixD (ze 0) (eC (.int 0)))) (za (yZ xj (za (eOp ixD (ze 1) (eOp ixD (ze 0) (eC (.int 1)))) zj)) (za (eOp ixD (ze 0) (eC (.int 1))) zj))) [some (.val (yR r)),some (.val (.lst (X.map tx)))]=.ok (kD (wa X r)):=tup3 (ze7 (op2 (zo rfl) rfl (row_0 r))) (Xs (op2 (zo rfl) (op2 (zo rfl) rfl (LP r)) (jV X r.2 hlt)) (vb _ hsz)) (op2 (zo rfl) rfl (LP r))
  exact this
theorem zf1(i j:Int):YI [.int i,.int j]=.ok (.int (if i<j then j else i)):=rfl
theorem Lu:ug=(yK (eSl (zr xR (za (ze 0) (za (ze 1) zj))) vQ (wn (yZ YI (za (ze 2) (za (eC (.int 0)) zj)))))):=by unfold ug;rfl
theorem blt2{g:List D→Rs D}{fa fb:FE}{τ:DS}{a b d:D}(h1:fa τ=.ok a)(h2:fb τ=.ok b)(h:g [a,b]=.ok d):yZ g (za fa (za fb zj)) τ=.ok d:=by
 rw[wq,zA,h1,Rs.bind_ok,zA,h2,Rs.bind_ok,zO,Rs.bind_ok,Rs.bind_ok,Rs.bind_ok,h]
theorem zd2{fa:FE}{τ:DS}{i:Int}(h:fa τ=.ok (.int i)):wn fa τ=.ok (some i):=by rw[Vk,h];rfl
theorem Mv(X:List (List Nat))(rs:List Rw)(many:Nat)(h:zj0 X rs):y4 [.lst (X.map tx),.lst (rs.map yR),.int (many:Int)]=.ok (.lst (((xD (wa X) rs).take many).map yR)):=by
 have st:zX 3 [.lst (X.map tx),.lst (rs.map yR),.int (many:Int)]=[some (.val (.lst (X.map tx))),some (.val (.lst (rs.map yR))),some (.val (.int (many:Int)))]:=rfl
 have hm:YI [.int (many:Int),.int 0]=.ok (.int (many:Int)):=by
  rw[zf1];rw[if_neg (by lia)]
 have e:eSl (zr xR (za (ze 0) (za (ze 1) zj))) vQ (wn (yZ YI (za (ze 2) (za (eC (.int 0)) zj)))) [some (.val (.lst (X.map tx))),some (.val (.lst (rs.map yR))),some (.val (.int (many:Int)))]=.ok (.lst (((xD (wa X) rs).take many).map yR)):=
  sl_ok (uP (zo rfl) (zo rfl) (GC X rs h)) rfl (zd2 (blt2 (zo rfl) rfl hm)) (by rw[MW,List.map_take])
 unfold y4
 rw[Lu,yc,st,zZ,e];rfl
noncomputable def fr1(X:List (List Nat))(q:List Nat)(i:Nat):Option Rw:=(j6 q (X.getD i [])).map fun t=>(t.1,i)
noncomputable def j2:FS:=(zS (y3 5 (zr vH (za (ze 1) (za (eOp ixD (ze 0) (ze 4)) zj))))
  (sIf (FD.tB (eOp ub (ze 5) (eC .non))) (Xg 3 (wO (za (eOp ixD (ze 5) (eC (.int 0))) (za (ze 4) zj)))) yj))
theorem fit_b:vg=(zS (vN 3 (fun τ=>(zj τ).bind fun ds=>if ds.length≤sizeLine then .ok ds else .no)) (zS (ut (wb (ze 2)) (gNm 4) j2) (ul 3))):=by unfold vg j2;rfl
theorem Ms(e e2:FE)(a0 a1 a2 a3 a4 a5:Option Sl)(h:e [a0,a1,a2,a3,a4,a5]=.ok .non) :
  (zS (y3 5 e) (sIf (FD.tB (eOp ub (ze 5) (eC .non))) (Xg 3 e2) yj)) [a0,a1,a2,a3,a4,a5]=.nx [a0,a1,a2,a3,a4,some (.val .non)]:=by
 simp only[zP,yb,yw,zU,vm,xL,yf,zK,yG,getElem?_cons_zero,getElem?_cons_succ,set_cons_succ,set_cons_zero,zE,Rs.bind_ok,Fl.of_ok,yh,zV,Bool.false_eq_true,if_false,h,X4]
theorem Mr(e e2:FE)(a0 a1 a2 a4 a5:Option Sl)(L:List D)(t:Tl)(R:D)(h:e [a0,a1,a2,some (.own L),a4,a5]=.ok (tlD t))(h2:e2 [a0,a1,a2,some (.own L),a4,some (.val (tlD t))]=.ok R)(hl:L.length<sizeLine) :
  (zS (y3 5 e) (sIf (FD.tB (eOp ub (ze 5) (eC .non))) (Xg 3 e2) yj)) [a0,a1,a2,some (.own L),a4,a5]=.nx [a0,a1,a2,some (.own (L++[R])),a4,some (.val (tlD t))]:=by
 simp only[zP,yb,yw,zU,vm,xL,yf,zK,yG,getElem?_cons_zero,getElem?_cons_succ,set_cons_succ,set_cons_zero,zE,yX,Rs.bind_ok,Fl.of_ok,yh,zV,if_true,h,VB,h2,vm,yX]
 rw[if_pos hl]
theorem Mt(X:List (List Nat))(q:List Nat)(i:Nat)(a2 a5:Option Sl)(acc:List Rw)(hi:i<X.length)(hq:q.length≤1000)(hX:∀x∈X,x.length≤1000)(ha:∀c∈q,c<128)(hc:acc.length≤1000) :
  ∃t5,j2 [some (.val (.lst (X.map tx))),some (.val (tx q)),a2,some (.own (acc.map yR)),some (.val (.int (i:Int))),a5]=.nx [some (.val (.lst (X.map tx))),some (.val (tx q)),a2,some (.own ((acc++(fr1 X q i).toList).map yR)),some (.val (.int (i:Int))),t5]:=by
 have hb:=MQ q (X.getD i []) hq (hX _ (getD_mem hi)) ha
 have he:zr vH (za (ze 1) (za (eOp ixD (ze 0) (ze 4)) zj)) [some (.val (.lst (X.map tx))),some (.val (tx q)),a2,some (.own (acc.map yR)),some (.val (.int (i:Int))),a5]=.ok (jc (j6 q (X.getD i []))):=
  uP (zo rfl) (op2 (zo rfl) (zo rfl) (jV X i hi)) hb
 unfold j2 fr1
 cases z:j6 q (X.getD i []) with
 |none=>
  rw[z] at he
  exact⟨some (.val .non),(Ms _ _ _ _ _ _ _ _ he).trans (by simp)⟩
 |some t=>
  rw[z] at he
  have h2:wO (za (eOp ixD (ze 5) (eC (.int 0))) (za (ze 4) zj)) [some (.val (.lst (X.map tx))),some (.val (tx q)),a2,some (.own (acc.map yR)),some (.val (.int (i:Int))),some (.val (tlD t))]=.ok (yR (t.1,i)):=VZ (op2 (zo rfl) rfl (JW t)) (zo rfl)
  exact⟨some (.val (tlD t)),(Mr _ _ _ _ _ _ _ _ t _ he h2 (by rw[zL,length_map];lia)).trans (by simp)⟩
noncomputable def Z1(X:List (List Nat))(q:List Nat)(is:List Nat):List Rw:=is.flatMap fun i=>(fr1 X q i).toList
theorem VJ(X:List (List Nat))(q:List Nat)(a2:Option Sl)(hq:q.length≤1000)(hX:∀x∈X,x.length≤1000)(ha:∀c∈q,c<128):∀(is:List Nat) (acc:List Rw) (a4 a5:Option Sl),(∀i∈is,i<X.length)→acc.length+is.length≤1000 →
  ∃t4 t5,y7 (gNm 4) j2 (is.map fun (i:Nat)=>D.int i) [some (.val (.lst (X.map tx))),some (.val (tx q)),a2,some (.own (acc.map yR)),a4,a5]=.nx [some (.val (.lst (X.map tx))),some (.val (tx q)),a2,some (.own ((acc++Z1 X q is).map yR)),t4,t5]:=by
 intro l_
 induction l_ with
 |nil=>
  rintro acc a4 a5 _ _
  exact⟨a4,a5,by unfold Z1;simp[y7]⟩
 |cons i is ih_=>
  rintro acc a4 a5 hi hc
  rw[length_cons] at hc
  obtain⟨t5,e⟩:=Mt X q i a2 a5 acc (hi i mem_cons_self) hq hX ha (by lia)
  have hl:(acc++(fr1 X q i).toList).length+is.length≤1000:=by
   rw[length_append]
   have:(fr1 X q i).toList.length≤1:=by cases fr1 X q i <;> simp
   lia
  obtain⟨u4,u5,ih⟩:=ih_ (acc++(fr1 X q i).toList) (some (.val (.int (i:Int)))) t5 (fun j hj=>hi j (mem_cons_of_mem _ hj)) hl
  refine⟨u4,u5,?_⟩
  rw[map_cons,y7,jC,Fl.of_ok]
  simp only[set_cons_succ,set_cons_zero,e]
  rw[ih]
  unfold Z1
  rw[flatMap_cons,append_assoc]
theorem nilO(τ:DS):(fun τ=>(zj τ).bind fun ds=>if ds.length≤sizeLine then Rs.ok ds else Rs.no) τ=.ok []:=by
 show(if ([]:List D).length≤sizeLine then Rs.ok [] else Rs.no)=_
 exact if_pos (zero_le sizeLine)
theorem Mq(e:FA)(b:FS)(A B C:D)(L R:List D)(t4 t5:Option Sl)(h0:e [some (.val A),some (.val B),some (.val C),none,none,none]=.ok [])(hi:Jw C=.ok L)
  (h1:y7 (gNm 4) b L [some (.val A),some (.val B),some (.val C),some (.own []),none,none]=.nx [some (.val A),some (.val B),some (.val C),some (.own R),t4,t5]) :
  xG 6 (zS (vN 3 e) (zS (ut (wb (ze 2)) (gNm 4) b) (ul 3))) [A,B,C]=.ok (.lst R):=by
 have st:zX 6 [A,B,C]=[some (.val A),some (.val B),some (.val C),none,none,none]:=rfl
 rw[yc,st]
 simp only[zP,wJ,wK,wL,vY,WI,zK,getElem?_cons_zero,getElem?_cons_succ,set_cons_succ,set_cons_zero,zE,yX,Rs.bind_ok,Fl.of_ok,yh,zT,h0,hi,h1,wJ,wK,wL,yX]
theorem Lr(X:List (List Nat))(q:List Nat)(is:List Nat)(hq:q.length≤1000)(hX:∀x∈X,x.length≤1000)(ha:∀c∈q,c<128)(hi:∀i∈is,i<X.length)(hl:is.length≤1000) :
  yF [.lst (X.map tx),tx q,.lst (is.map fun (i:Nat)=>D.int i)]=.ok (.lst ((Z1 X q is).map yR)):=by
 obtain⟨t4,t5,h⟩:=VJ X q (some (.val (.lst (is.map fun (i:Nat)=>D.int i)))) hq hX ha is [] none none hi (by simpa using hl)
 unfold yF
 rw[fit_b]
 exact Mq _ _ _ _ _ _ _ _ _ (nilO _) rfl (by simpa using h)
theorem Wa:∀rs:List Rw,plainDs (rs.map yR)=true∧PyData.canLayAll0 (toPys (rs.map yR))=true∧PyData.depthAll (toPys (rs.map yR))≤1:=by
 intro l_
 induction l_ with
 |nil=>
  exact⟨rfl,rfl,zero_le _⟩
 |cons r rs ih_=>
  obtain⟨h1,h2,h3⟩:=ih_
  refine⟨by simp[plainDs,xQ,yR,h1],by simp[toPys,xJ,yR,PyData.canLayAll0,PyData.canLay0,h2],?_⟩
  simp only[map_cons,toPys,xJ,yR,PyData.depthAll,PyData.depth]
  lia
theorem VM:∀rs:List Rw,PyData.eqvAll (toPys (rs.map yR)) (toPys (rs.map yR))=true:=by
 intro l_
 induction l_ with
 |nil=>
  rfl
 |cons r rs ih_=>
  have:=ih_
  simp[toPys,xJ,yR,PyData.eqvAll,PyData.eqv,this]
noncomputable def abcN:List Nat:=[97,98,99]
theorem abc_s:("abc" : Str)=⟨abcN.toArray⟩:=by decide +kernel
theorem zi7:QJ abcN:=⟨by decide,by decide,by decide⟩
theorem LB(X:List (List Nat))(h:X.length≤1000):zW (.lst (X.map tx)) (.lst [.str "abc"])=.ok (.lst ((X++[abcN]).map tx)):=by
 show(if _ then Rs.ok (D.lst _) else Rs.no)=_
 rw[if_pos (by rw[zL,length_map,List.length_singleton];lia),map_append,abc_s]
 rfl
noncomputable def qE(a b m:Int):FE:=(zr xB (za (ze 0) (za (eC (.int a)) (za (eOp ixD (eOp zW (ze 1) (vJ (za (eC (.str "abc")) zj))) (zr zv (za (ze 0) (za (eC (.int b)) (za (eOp zW (yZ xj (za (ze 1) zj)) (eC (.int 1))) zj))))) (za (eC (.int m)) zj)))))
theorem zi0{f:List D→Rs D}{fa fb fc fd:FE}{τ:DS}{a b c d r:D}(h1:fa τ=.ok a)(h2:fb τ=.ok b)(h3:fc τ=.ok c)(h4:fd τ=.ok d)(h:f [a,b,c,d]=.ok r):zr f (za fa (za fb (za fc (za fd zj)))) τ=.ok r:=by
 rw[yz,zA,h1,Rs.bind_ok,zA,h2,Rs.bind_ok,zA,h3,Rs.bind_ok,zA,h4,Rs.bind_ok,zO,Rs.bind_ok,Rs.bind_ok,Rs.bind_ok,Rs.bind_ok,Rs.bind_ok,h];rfl
theorem qE_ok(ns:List Int)(X:List (List Nat))(a b m:Int)(h63:ns.length≤63)(ha0:0≤a)(ha:a<900000)(hb0:0≤b)(hb:b<900000)(hm0:0≤m)(hm:m<50)(hX:∀x∈X,QJ x)(hl:X.length≤1000)(r:DS) :
  ∃q:List Nat,(q.length:Int)≤m∧(∀c∈q,c∈QS)∧qE a b m (some (.val (.scr ns))::some (.val (.lst (X.map tx)))::r)=.ok (tx q):=by
 have dl:=wH ns b (m:=(X.length:Int)+1) (by lia)
 have dk:=wG ns b ((X.length:Int)+1) h63 hb0 (by lia) (by lia)
 generalize xV ns b ((X.length:Int)+1)=M at dl dk
 have hi:M.toNat<(X++[abcN]).length:=by rw[length_append,List.length_singleton];lia
 have hm':(X++[abcN]).getD M.toNat []∈X++[abcN]:=getD_mem hi
 have hn:QJ ((X++[abcN]).getD M.toNat []):=by
  rcases mem_append.mp hm' with z|z
  ·exact hX _ z
  ·have:(X++[abcN]).getD M.toNat []=abcN:=by simpa using z
   rw[this];exact zi7
 obtain⟨q,q1,q2,q3⟩:=Gd ns a ((X++[abcN]).getD M.toNat []) m h63 ha0 ha hm0 hm hn.1 (le_trans hn.2.1 (by decide)) hn.2.2
 refine⟨q,q1,q2,?_⟩
 have ix:=jV (X++[abcN]) M.toNat hi
 rw[Int.toNat_of_nonneg dl.1] at ix
 unfold qE
 exact zi0 (zo rfl) rfl (op2 (op2 (zo rfl) (GY rfl) (LB X hl)) (uq (zo rfl) rfl (op2 (Xs (zo rfl) uH) rfl (by rw[length_map];exact xT)) dk) ix) rfl q3
noncomputable def wc(X:List (List Nat))(q:List Nat):List Rw:=Z1 X q (List.range X.length)
theorem uR(X:List (List Nat))(q:List Nat):∀is:List Nat,((Z1 X q is).map (·.2)).Sublist is:=by
 intro l_
 induction l_ with
 |nil=>
  exact List.Sublist.refl _
 |cons i is ih_=>
  have ih:=ih_
  unfold Z1 at ih ⊢
  rw[flatMap_cons,map_append]
  unfold fr1 at ih ⊢
  cases z:j6 q (X.getD i []) with
  |none=>simp;exact List.Sublist.cons _ (by simpa using ih)
  |some t=>simp;exact(by simpa using ih)
theorem LK(X:List (List Nat))(q:List Nat)(hX:∀x∈X,x.length≤1000)(hl:X.length<64):zj0 X (wc X q):=by
 have s:=uR X q (List.range X.length)
 refine⟨?_,s.nodup List.nodup_range,fun r hr=>?_,hX⟩
 ·have:=s.length_le
  rw[length_map,length_range] at this
  unfold wc;lia
 ·have:=s.mem (mem_map.mpr ⟨r,hr,rfl⟩)
  simpa using this
theorem UZ(n:Nat):((List.range n).map fun (k:Nat)=>D.int (0+k))=(List.range n).map fun (i:Nat)=>D.int i:=map_congr_left fun k _=>by rw[Int.zero_add]
theorem all_b:jG=(yK (zr yF (za (ze 0) (za (ze 1) (za (fun τ=>((uo (wM (za (yZ xj (za (ze 0) zj)) zj))) τ).bind fun ds=>.ok (.lst ds)) zj))))):=by unfold jG;rfl
theorem zi5(X:List (List Nat))(q:List Nat)(hq:q.length≤1000)(hX:∀x∈X,x.length≤1000)(ha:∀c∈q,c<128)(hl:X.length<64):xS [.lst (X.map tx),tx q]=.ok (.lst ((wc X q).map yR)):=by
 have st:zX 2 [.lst (X.map tx),tx q]=[some (.val (.lst (X.map tx))),some (.val (tx q))]:=rfl
 have r1:wM (za (yZ xj (za (ze 0) zj)) zj) [some (.val (.lst (X.map tx))),some (.val (tx q))]=.ok ((List.range X.length).map fun (i:Nat)=>D.int i):=by
  rw[← UZ]
  exact Yl (Xs (zo rfl) (by rw[uH,length_map])) (by lia)
 have e:zr yF (za (ze 0) (za (ze 1) (za (fun τ=>((uo (wM (za (yZ xj (za (ze 0) zj)) zj))) τ).bind fun ds=>.ok (.lst ds)) zj))) [some (.val (.lst (X.map tx))),some (.val (tx q))]=.ok (.lst ((wc X q).map yR)):=by
  refine uq (zo rfl) (zo rfl) ?_ (Lr X q (List.range X.length) hq hX ha (fun i hi=>mem_range.mp hi) (by rw[length_range];lia))
  unfold uo
  rw[r1,Rs.bind_ok,if_pos (by rw[length_map,length_range];lia)];rfl
 unfold xS
 rw[all_b,yc,st,zZ,e];rfl
theorem Lv:WP=(yK (zr y4 (za (ze 0) (za (zr xS (za (ze 0) (za (ze 1) zj))) (za (ze 2) zj))))):=by unfold WP;rfl
theorem VL(X:List (List Nat))(q:List Nat)(many:Nat)(hq:q.length≤1000)(hX:∀x∈X,x.length≤1000)(ha:∀c∈q,c<128)(hl:X.length<64):wo [.lst (X.map tx),tx q,.int (many:Int)]=.ok (.lst (((xD (wa X) (wc X q)).take many).map yR)):=by
 have st:zX 3 [.lst (X.map tx),tx q,.int (many:Int)]=[some (.val (.lst (X.map tx))),some (.val (tx q)),some (.val (.int (many:Int)))]:=rfl
 have e:zr y4 (za (ze 0) (za (zr xS (za (ze 0) (za (ze 1) zj))) (za (ze 2) zj))) [some (.val (.lst (X.map tx))),some (.val (tx q)),some (.val (.int (many:Int)))]=.ok (.lst (((xD (wa X) (wc X q)).take many).map yR)):=
  uq (zo rfl) (uP (zo rfl) (zo rfl) (zi5 X q hq hX ha hl)) (zo rfl) (Mv X _ many (LK X q hX hl))
 unfold wo
 rw[Lv,yc,st,zZ,e];rfl
theorem T1(rs:List Rw):neD (.lst (rs.map yR)) (.lst (rs.map yR))=.ok (.bl false):=by
 obtain⟨a,b,c⟩:=Wa rs
 have ok:okD (.lst (rs.map yR))=true:=by
  simp[okD,xQ,xJ,PyData.canLay0,PyData.depth,a,b]
  lia
 have ev:wT (.lst (rs.map yR)) (.lst (rs.map yR))=true:=by
  simp[wT,xJ,PyData.eqv,VM]
 unfold neD
 simp only[ok,and_self,if_true,ev,Bool.not_true]
theorem x6{f g:FS}{τ τ':DS}(h:f τ=.nx τ'):zS f g τ=g τ':=by rw[zP,h,yh]
theorem if_f{g:FT}{a b:FS}{τ:DS}(h:g τ=.ok false):sIf g a b τ=b τ:=by rw[yw,h,Fl.of_ok,if_neg (by simp)]
theorem Mh{g:FT}{a:FS}{τ:DS}(h:g τ=.ok false):sIf g a yj τ=.nx τ:=if_f h
theorem Zh{i:Nat}{fe:FE}{τ:DS}{d:D}(h:fe τ=.ok d):y3 i fe τ=.nx (τ.set i (some (.val d))):=by rw[yb,h,Fl.of_ok]
theorem Q9{fe:FE}{τ:DS}{d:D}(h:fe τ=.ok d):yK fe τ=.rt d:=by rw[zZ,h,Fl.of_ok]
theorem Tg{fe:FE}{τ:DS}{d:D}(h:fe τ=.ok d):W7 fe τ=.ro d τ:=by unfold W7;rw[h,Fl.of_ok]
theorem GL{τ:DS}{i n:Nat}{c:Str}{fs:Fs}(h:τ[i]?=some (some (.obj n c fs))):Xo τ i c=.ok fs:=by unfold Xo;rw[h];exact if_pos rfl
theorem ob_r{τ:DS}{i:Nat}{c:Str}{fs:Fs}(h:τ[i]?=some (some (.obr c fs))):Xo τ i c=.ok fs:=by unfold Xo;rw[h];exact if_pos rfl
theorem GE{τ:DS}{i n:Nat}{c:Str}{fs:Fs}(h:τ[i]?=some (some (.obj n c fs))):v7 τ i c=.ok (n,fs):=by unfold v7;rw[h];exact if_pos rfl
theorem LW{τ:DS}{i:Nat}{c f:Str}{fs:Fs}{ds:List D}(h:Xo τ i c=.ok fs)(hf:vi f fs=some (.lst ds)):Qa τ i c f=.ok ds:=by unfold Qa;rw[h,Rs.bind_ok,hf]
theorem ze1{τ:DS}{i n:Nat}{c f:Str}{fs:Fs}{ds:List D}(h:τ[i]?=some (some (.obj n c fs)))(hf:vi f fs=some (.lst ds)):omO τ i c f=.ok (n,fs,ds):=by unfold omO;rw[GE h,Rs.bind_ok];show(match vi f fs with|some (.lst ds)=>Rs.ok (n,fs,ds) | _=>.no)=_;rw[hf]
theorem ro_ok{τ:DS}{i:Nat}{c f:Str}{fs:Fs}{ds:List D}(h:τ[i]?=some (some (.obr c fs)))(hf:vi f fs=some (.lst ds)):J4 τ i c f=.ok ds:=by unfold J4;rw[h];show(if c=c then _ else _)=_;rw[if_pos rfl,hf]
theorem len_A{τ:DS}{i:Nat}{c f:Str}{ds:List D}(h:Qa τ i c f=.ok ds):VO i c f τ=.ok (.int ds.length):=by unfold VO;rw[h];rfl
theorem M6{τ:DS}{i n:Nat}{c f:Str}{fs:Fs}{ds:List D}{ff:FA}(he:ff τ=.ok ds)(h:τ[i]?=some (some (.obj n c fs)))(hl:fs.length<1000):Ta i c f ff τ=.nx (τ.set i (some (.obj n c (Zj f (.lst ds) fs)))):=by
 unfold Ta;rw[he,Fl.of_ok,GE h,Fl.of_ok];exact if_pos hl
theorem LJ{τ:DS}{i n:Nat}{c f:Str}{fs:Fs}{ds:List D}{d:D}{fe:FE}(h:τ[i]?=some (some (.obj n c fs)))(hf:vi f fs=some (.lst ds))(he:fe τ=.ok d)(hl:ds.length≤1000):UW i c f fe τ=.nx (τ.set i (some (.obj n c (Zj f (.lst (ds++[d])) fs)))):=by
 unfold UW;rw[ze1 h hf,Fl.of_ok,he,Fl.of_ok];exact if_pos (by rw[zL];show ds.length<_;lia)
theorem jX{τ:DS}{i:Nat}{c m:Str}{g:Fs→List D→Rs D}{fa:FA}{o:Fs}{ds:List D}{d:D}(h:Xo τ i c=.ok o)(hm:vi m o=none)(ha:fa τ=.ok ds)(hg:g o ds=.ok d):yY i c m g fa τ=.ok d:=by
 unfold yY;rw[h,Rs.bind_ok,hm,if_pos (by rfl),ha,Rs.bind_ok,hg];rfl
theorem T3{τ:DS}{i n:Nat}{c m:Str}{g:Fs→List D→Rs (D×Fs)}{fa:FA}{o o':Fs}{ds:List D}{d:D}(h:τ[i]?=some (some (.obj n c o)))(hm:vi m o=none)(ha:fa τ=.ok ds)(hg:g o ds=.ok (d,o')):jg i c m g fa τ=.ok (d,τ.set i (some (.obj n c o'))):=by
 unfold jg;rw[GE h,Rs.bind_ok];show(if (vi m o).isNone=true then _ else _)=_;rw[hm,if_pos (by rfl),ha,Rs.bind_ok,hg]
theorem MO{fa:FE}{τ:DS}{a:D}(h:fa τ=.ok a):za fa zj τ=.ok [a]:=by rw[zA,h,Rs.bind_ok,zO,Rs.bind_ok]
theorem Jj{i:Nat}{c:Str}{g:Fs→List D→Rs (D×Fs)}{fa:FA}{τ:DS}{ds:List D}{o:Fs}(ha:fa τ=.ok ds)(hg:g [] ds=.ok (.non,o)):ZC i c g fa τ=.nx (τ.set i (some (.obj 0 c o))):=by
 unfold ZC;rw[ha,Fl.of_ok,hg]
theorem ze3{op:D→D→Rs D}{fo:FOb}{fb:FE}{τ τ':DS}{a b r:D}(h1:fo τ=.ok (a,τ'))(h2:fb τ'=.ok b)(h3:op a b=.ok r):oOp op fo fb τ=.ok (r,τ'):=by
 unfold oOp;rw[h1,Rs.bind_ok];show(fb τ').bind _=_;rw[h2,Rs.bind_ok];show(op a b).bind _=_;rw[h3];rfl
theorem oB_ok{fo:FOb}{τ τ':DS}{b:Bool}(h:fo τ=.ok (.bl b,τ')):oB fo τ=.ok (b,τ'):=by unfold oB;rw[h];rfl
theorem ifO_n{g:QK}{a:FS}{τ τ':DS}(h:g τ=.ok (false,τ')):M9 g a yj τ=.nx τ':=by
 unfold M9;rw[h,Fl.of_ok];show(if false=true then _ else yj τ')=_;rw[if_neg (by simp)];rfl
noncomputable def sg(c:Nat):Str:=⟨#[c]⟩
theorem V7{c d:Nat}(h:sg c=sg d):c=d:=by
 unfold sg at h
 injection h with h
 simpa using h
noncomputable def Z0(ks:SI)(k:Str):SI:=jP ks k ((xK ks k).getD 0+1)
theorem j1(k:Str):xK [] k=none:=rfl
theorem wA(p:Str×Int)(ks:SI)(k:Str):xK (p::ks) k=if p.1=k then some p.2 else xK ks k:=by
 unfold xK
 rw[find?_cons]
 by_cases h:p.1=k
 ·rw[if_pos h];simp[h]
 ·rw[if_neg h];simp[h]
theorem getI_none{ks:SI}{k:Str}:xK ks k=none↔ks.any (fun p=>decide (p.1=k))=false:=by
 induction ks with
 |nil=>simp[j1]
 |cons p ks ih=>
  rw[wA]
  by_cases h:p.1=k
  ·rw[if_pos h];simp[h]
  ·rw[if_neg h,ih];simp[h]
theorem Mp(ks:SI)(q:Str×Int)(k:Str):xK (ks++[q]) k=match xK ks k with
  |some v=>some v
  |none=>if q.1=k then some q.2 else none:=by
 induction ks with
 |nil=>rw[nil_append,wA,j1]
 |cons p ks ih=>
  rw[List.cons_append,wA,wA,ih]
  by_cases h:p.1=k
  ·rw[if_pos h,if_pos h]
  ·rw[if_neg h,if_neg h]
theorem Mo(ks:SI)(k:Str)(v:Int)(k':Str):xK (ks.map fun p=>if p.1=k then (p.1,v) else p) k'=if k'=k then (xK ks k').map fun _=>v else xK ks k':=by
 induction ks with
 |nil=>simp[j1]
 |cons p ks ih=>
  rw[map_cons,wA,wA,ih]
  by_cases h:p.1=k
  ·rw[if_pos h]
   by_cases h2:k'=k
   ·subst h2;simp[h]
   ·have:p.1≠k':=fun z=>h2 (by rw[← z,h])
    simp[this,h2]
  ·rw[if_neg h]
   by_cases h2:k'=k
   ·subst h2;simp[h]
   ·simp[h2]
theorem Mn(ks:SI)(k:Str)(v:Int)(k':Str):xK (jP ks k v) k'=if k'=k then some v else xK ks k':=by
 unfold jP
 by_cases h:ks.any (fun p=>decide (p.1=k))=true
 ·rw[if_pos h,Mo]
  by_cases h2:k'=k
  ·subst h2
   rw[if_pos rfl,if_pos rfl]
   cases q:xK ks k' with
   |none=>rw[getI_none.mp q] at h;cases h
   |some w=>rfl
  ·rw[if_neg h2,if_neg h2]
 ·rw[if_neg h,Mp]
  have hn:xK ks k=none:=getI_none.mpr (Bool.eq_false_iff.mpr h)
  by_cases h2:k'=k
  ·subst h2;rw[hn,if_pos rfl];try simp
  ·rw[if_neg h2]
   cases xK ks k' with
   |none=>simp only;rw[if_neg fun z=>h2 z.symm]
   |some w=>rfl
theorem XI(ks:SI)(k:Str)(v:Int):(jP ks k v).map (·.1)=if ks.any (fun p=>decide (p.1=k))=true then ks.map (·.1) else ks.map (·.1)++[k]:=by
 unfold jP
 by_cases h:ks.any (fun p=>decide (p.1=k))=true
 ·rw[if_pos h,if_pos h,map_map]
  apply map_congr_left
  intro p _
  simp only[Function.comp]
  split <;> rfl
 ·rw[if_neg h,if_neg h,map_append];rfl
theorem Tk{ks:SI}(k:Str)(v:Int)(nd:(ks.map (·.1)).Nodup):((jP ks k v).map (·.1)).Nodup:=by
 rw[XI]
 split
 ·exact nd
 ·rename_i h
  rw[List.nodup_append]
  refine⟨nd,by simp,fun a ha b hb=>?_⟩
  obtain rfl:b=k:=by simpa using hb
  rintro rfl
  obtain⟨p,hp,e⟩:=mem_map.mp ha
  exact h (List.any_eq_true.mpr ⟨p,hp,by simpa using e⟩)
theorem Vb{ks:SI}{k:Str}{v:Int}{x:Str}(h:x∈(jP ks k v).map (·.1)):x∈ks.map (·.1)∨x=k:=by
 rw[XI] at h
 split at h
 ·exact .inl h
 ·simpa using h
noncomputable def ctF(ks:SI)(x:List Nat):SI:=x.foldl (fun ks c=>Z0 ks (sg c)) ks
noncomputable def ct(x:List Nat):SI:=ctF [] x
theorem Ly(x:List Nat):∀(ks:SI) (c:Nat),(xK (ctF ks x) (sg c)).getD 0=(xK ks (sg c)).getD 0+(x.count c:Nat):=by
 induction x with
 |nil=>intro ks c;simp[ctF]
 |cons d x ih=>
  intro ks c
  show(xK (ctF (Z0 ks (sg d)) x) (sg c)).getD 0=_
  rw[ih,Z0,Mn]
  by_cases h:c=d
  ·subst h
   rw[if_pos rfl,List.count_cons_self]
   simp only[Option.getD_some]
   lia
  ·rw[if_neg (fun z=>h (V7 z)),List.count_cons_of_ne (fun z=>h z.symm)]
theorem UB(x:List Nat)(c:Nat):(xK (ct x) (sg c)).getD 0=(x.count c:Nat):=by
 have:=Ly x [] c
 rw[j1] at this
 simpa[ct] using this
theorem zh9(x:List Nat):∀(ks:SI),(ks.map (·.1)).Nodup→((ctF ks x).map (·.1)).Nodup:=by
 induction x with
 |nil=>intro ks h;exact h
 |cons d x ih=>intro ks h;exact ih _ (Tk _ _ h)
theorem JM(x:List Nat):∀(ks:SI),(ctF ks x).length≤ks.length+x.length:=by
 induction x with
 |nil=>intro ks;simp[ctF]
 |cons d x ih=>
  intro ks
  have h1:=ih (Z0 ks (sg d))
  have h2:=Ym ks (sg d) ((xK ks (sg d)).getD 0+1)
  show(ctF (Z0 ks (sg d)) x).length≤_
  unfold Z0 at h1 ⊢
  simp only[length_cons]
  lia
theorem MF{x:List Nat}{k:Str}(h:k∈(ct x).map (·.1)):∃c∈x,k=sg c:=by
 have go:∀(x:List Nat) (ks:SI),k∈(ctF ks x).map (·.1)→k∈ks.map (·.1)∨∃c∈x,k=sg c:=by
  intro x
  induction x with
  |nil=>intro ks h;exact .inl h
  |cons d x ih=>
   intro ks h
   rcases ih _ h with z|⟨c,hc,e⟩
   ·rcases Vb z with z|z
    ·exact .inl z
    ·exact .inr ⟨d,by simp,z⟩
   ·exact .inr ⟨c,by simp[hc],e⟩
 rcases go x [] h with z|z
 ·simp at z
 ·exact z
theorem Mi(x:List Nat):∀(ks:SI) (τ:DS),2<τ.length→ks.length+x.length≤1000→∃τ',wN (je (ze 2)) 2 (x.map zD) τ ks=some (τ',ctF ks x):=by
 induction x with
 |nil=>intro ks τ _ _;exact⟨τ,rfl⟩
 |cons d x ih=>
  intro ks τ ht hl
  simp only[length_cons] at hl
  have e:je (ze 2) (τ.set 2 (some (.val (zD d)))) ks=some (τ.set 2 (some (.val (zD d))),Z0 ks (sg d)):=by
   have v:ze 2 (τ.set 2 (some (.val (zD d))))=.ok (.str (sg d)):=zo (by rw[getElem?_set_self ht];rfl)
   unfold je
   rw[v]
   simp only
   rw[if_pos (by lia)];rfl
  have h2:=Ym ks (sg d) ((xK ks (sg d)).getD 0+1)
  obtain⟨τ',h⟩:=ih (Z0 ks (sg d)) (τ.set 2 (some (.val (zD d)))) (by rw[length_set];exact ht) (by unfold Z0;lia)
  refine⟨τ',?_⟩
  rw[map_cons,wN,e]
  exact h
theorem Zz(x:List Nat)(hx:x.length≤1000):yd [tx x]=.ok (yo (ct x)):=by
 have st:zX 3 [tx x]=[some (.val (tx x)),none,none]:=rfl
 have hit:wb (ze 0) [some (.val (tx x)),none,none]=.ok (x.map zD):=by
  show Rs.ok (uz ⟨x.toArray⟩)=_
  rw[QO]
 obtain⟨τ',h⟩:=Mi x [] [some (.val (tx x)),none,none] (by show 2<3;decide) (by simpa using hx)
 have e:YU (wb (ze 0)) 2 (je (ze 2)) [some (.val (tx x)),none,none] []=some (τ',ct x):=by
  unfold YU
  rw[hit]
  exact h
 unfold yd jj
 rw[yc,st]
 unfold M8
 rw[if_pos ⟨rfl,by show 1<3;decide⟩]
 show YW (match YU (wb (ze 0)) 2 (je (ze 2)) [some (.val (tx x)),none,none] [] with
  |some p=>.rt (yo p.2)
  |none=>.no)=_
 rw[e];rfl
noncomputable def loC(c:Nat):Nat:=if 65≤c∧c≤90 then c+32 else c
noncomputable def upC(c:Nat):Nat:=if 97≤c∧c≤122 then c-32 else c
theorem zf3:∀c,c<128→Txt.lower ⟨#[c]⟩=(⟨#[loC c]⟩:Str):=by decide +kernel
theorem L9:∀c,c<128→Txt.upper ⟨#[c]⟩=(⟨#[upC c]⟩:Str):=by decide +kernel
theorem zf4(c:Nat)(h:c<128):loD (zD c) []=.ok (zD (loC c)):=by
 show(if (⟨#[c]⟩:Str).length≤5000000 then Rs.ok (D.str (Txt.lower ⟨#[c]⟩)) else .no)=_
 rw[if_pos (by show 1≤5000000;decide),zf3 c h];rfl
theorem za0(c:Nat)(h:c<128):upD (zD c) []=.ok (zD (upC c)):=by
 show(if (⟨#[c]⟩:Str).length≤5000000 then Rs.ok (D.str (Txt.upper ⟨#[c]⟩)) else .no)=_
 rw[if_pos (by show 1≤5000000;decide),L9 c h];rfl
theorem Mm(ks:SI)(k:Str):jB (ks.map fun p=>Sum.inr p.1) (ks.map fun p=>D.int p.2) (Sum.inr k)=(xK ks k).map D.int:=by
 induction ks with
 |nil=>rfl
 |cons p ks ih=>
  rw[map_cons,map_cons,jB,wA,ih]
  by_cases h:p.1=k
  ·rw[if_pos (by rw[h]),if_pos h];rfl
  ·rw[if_neg (fun z=>h (by cases z;rfl)),if_neg h]
theorem WM{fo fe:FE}{τ:DS}{x:List Nat}{c:Nat}(h:fo τ=.ok (yo (ct x)))(h2:fe τ=.ok (zD c)):jD fo fe (eC (.int 0)) τ=.ok (.int (x.count c:Nat)):=by
 unfold jD
 rw[h,Rs.bind_ok]
 show((fe τ).bind fun k=>(eC (.int 0) τ).bind fun z=>match YN k with
  |some k=>.ok ((jB ((ct x).map fun p=>Sum.inr p.1) ((ct x).map fun p=>D.int p.2) k).getD z)
  |none=>.no)=_
 rw[h2,Rs.bind_ok,yG,Rs.bind_ok]
 show Rs.ok ((jB ((ct x).map fun p=>Sum.inr p.1) ((ct x).map fun p=>D.int p.2) (Sum.inr (sg c))).getD (.int 0))=_
 rw[Mm,← UB x c]
 cases xK (ct x) (sg c) <;> rfl
noncomputable def sag(x:List Nat)(c:Nat):Nat:=x.count (loC c)+x.count (upC c)
theorem Q5(x:List Nat)(c:Nat)(h:c<128):z8 [yo (ct x),zD c]=.ok (.int (sag x c:Nat)):=by
 have st:zX 2 [yo (ct x),zD c]=[some (.val (yo (ct x))),some (.val (zD c))]:=rfl
 have m0:∀{g:D→List D→Rs D} {d:D},g (zD c) []=.ok d→Y5 "str" g (ze 1) [some (.val (yo (ct x))),some (.val (zD c))]=.ok d:=fun {g d} h=>by
  unfold Y5
  rw[zo (d:=zD c) rfl,Rs.bind_ok]
  exact h
 have e1:=WM (fo:=ze 0) (τ:=[some (.val (yo (ct x))),some (.val (zD c))]) rfl (m0 (zf4 c h))
 have e2:=WM (fo:=ze 0) (τ:=[some (.val (yo (ct x))),some (.val (zD c))]) rfl (m0 (za0 c h))
 unfold z8 vy
 rw[yc,st,zZ,op2 e1 e2 xT]
 rfl
theorem zh7{fo fe:FE}{τ:DS}{x:List Nat}{c:Nat}(hc:c∈x)(h:fo τ=.ok (yo (ct x)))(h2:fe τ=.ok (zD c)):MB fo fe τ=.ok (.int (x.count c:Nat)):=by
 unfold MB
 rw[h,Rs.bind_ok]
 show((fe τ).bind fun k=>match YN k with
  |some k=>(match jB ((ct x).map fun p=>Sum.inr p.1) ((ct x).map fun p=>D.int p.2) k with
   |some v=>.ok v
   |none=>.no)
  |none=>.no)=_
 rw[h2,Rs.bind_ok]
 show(match jB ((ct x).map fun p=>Sum.inr p.1) ((ct x).map fun p=>D.int p.2) (Sum.inr (sg c)) with
   |some v=>Rs.ok v
   |none=>.no)=_
 have hg:=UB x c
 have hp:0<x.count c:=List.count_pos_iff.mpr hc
 rw[Mm]
 cases q:xK (ct x) (sg c) with
 |none=>rw[q] at hg;simp at hg;lia
 |some v=>rw[q] at hg;simp only[Option.getD_some] at hg;rw[hg];rfl
noncomputable def Me(c:Nat):Bool:=decide (c∈List.range' 97 26)
noncomputable def isFg(c:Nat):Bool:=decide (c∈List.range' 48 10)
noncomputable def okS(x q:List Nat)(c:Nat):Bool:=!(!Me c&&decide (x.count c<q.count c)) && !(!isFg c&&decide (sag x c<sag q c))
theorem sm_l:("abcdefghijklmnopqrstuvwxyz" : Str).cps.toList=List.range' 97 26:=by decide +kernel
theorem fg_l:("0123456789" : Str).cps.toList=List.range' 48 10:=by decide +kernel
theorem LY(c:Nat){fe fx:FE}{x:Str}{τ:DS}(h:fe τ=.ok (zD c))(h2:fx τ=.ok (.str x)):FD.tB (eOp x9 fe fx) τ=.ok (!decide (c∈x.cps.toList)):=by
 refine wU (op2 h h2 ?_)
 unfold x9
 simp only[zD]
 rw[ZM,wd];rfl
theorem zi4{f g:FT}{τ:DS}(h:f τ=.ok false):wl f g τ=.ok false:=by rw[wC,h];rfl
theorem zi3{f g:FT}{τ:DS}{b:Bool}(h:f τ=.ok true)(h2:g τ=.ok b):wl f g τ=.ok b:=by rw[wC,h,Rs.bind_ok,if_pos rfl,h2]
theorem UH{f g:FT}{τ:DS}{a b:Bool}(h1:f τ=.ok a)(h2:g τ=.ok b):wl f g τ=.ok (a&&b):=by
 cases a
 ·rw[zi4 h1];rfl
 ·rw[zi3 h1 h2];rfl
noncomputable def heB:FS:=(zS (sIf (wl (FD.tB (eOp x9 (ze 2) (eC (.str "abcdefghijklmnopqrstuvwxyz")))) (FD.tB (eOp ltI (jD (ze 0) (ze 2) (eC (.int 0))) (MB (ze 1) (ze 2))))) (yK (eC (.bl false))) yj)
  (sIf (wl (FD.tB (eOp x9 (ze 2) (eC (.str "0123456789")))) (FD.tB (eOp ltI (zr z8 (za (ze 0) (za (ze 2) zj))) (zr z8 (za (ze 1) (za (ze 2) zj)))))) (yK (eC (.bl false))) yj))
theorem Lo(x q:List Nat)(c:Nat)(hc:c∈q)(h:c<128):heB [some (.val (yo (ct x))),some (.val (yo (ct q))),some (.val (zD c))]=if okS x q c=true then .nx [some (.val (yo (ct x))),some (.val (yo (ct q))),some (.val (zD c))] else .rt (.bl false):=by
 generalize ht:([some (.val (yo (ct x))),some (.val (yo (ct q))),some (.val (zD c))]:DS)=τ
 have v0:ze 0 τ=.ok (yo (ct x)):=by rw[← ht];rfl
 have v1:ze 1 τ=.ok (yo (ct q)):=by rw[← ht];rfl
 have v2:ze 2 τ=.ok (zD c):=by rw[← ht];rfl
 have n1:=LY c v2 (fx:=eC (.str "abcdefghijklmnopqrstuvwxyz")) rfl
 have n2:=LY c v2 (fx:=eC (.str "0123456789")) rfl
 rw[sm_l] at n1;rw[fg_l] at n2
 have t1:=UH n1 (wU (op2 (WM v0 v2) (zh7 hc v1 v2) Vr))
 have t2:=UH n2 (wU (op2 (uP v0 v2 (Q5 x c h)) (uP v1 v2 (Q5 q c h)) Vr))
 have d1:decide (((x.count c:Nat):Int)<((q.count c:Nat):Int))=decide (x.count c<q.count c):=by rw[Bool.eq_iff_iff];simp
 have d2:decide (((sag x c:Nat):Int)<((sag q c:Nat):Int))=decide (sag x c<sag q c):=by rw[Bool.eq_iff_iff];simp
 rw[d1] at t1;rw[d2] at t2
 unfold heB okS Me isFg
 rw[zP,yw,t1,Fl.of_ok]
 cases (!decide (c∈List.range' 97 26)&&decide (x.count c<q.count c)) with
 |true=>rfl
 |false=>
  rw[if_neg (by simp),zU,yh,yw,t2,Fl.of_ok]
  cases (!decide (c∈List.range' 48 10)&&decide (sag x c<sag q c)) with
  |true=>rfl
  |false=>rfl
noncomputable def kl(q:List Nat):List Nat:=(ct q).map fun p=>p.1.cps.toList.headD 0
theorem Js(q:List Nat):(ct q).map (·.1)=(kl q).map sg:=by
 unfold kl
 rw[map_map]
 apply map_congr_left
 intro p hp
 obtain⟨c,_,e⟩:=MF (mem_map.mpr ⟨p,hp,rfl⟩)
 simp only[Function.comp]
 rw[e];rfl
theorem kl_mem{q:List Nat}{c:Nat}:c∈kl q↔c∈q:=by
 constructor
 ·intro h
  have:sg c∈(ct q).map (·.1):=by rw[Js];exact mem_map.mpr ⟨c,h,rfl⟩
  obtain⟨d,hd,e⟩:=MF this
  rw[V7 e];exact hd
 ·intro h
  have hp:0<q.count c:=List.count_pos_iff.mpr h
  have hg:=UB q c
  have:sg c∈(ct q).map (·.1):=by
   cases z:xK (ct q) (sg c) with
   |none=>rw[z] at hg;simp at hg;lia
   |some v=>
    unfold xK at z
    cases y:(ct q).find? fun p=>decide (p.1=sg c) with
    |none=>rw[y] at z;cases z
    |some p=>
     have h1:=List.mem_of_find?_eq_some y
     have h2:=List.find?_some y
     exact mem_map.mpr ⟨p,h1,by simpa using h2⟩
  rw[Js] at this
  obtain⟨d,hd,e⟩:=mem_map.mp this
  rw[← V7 e];exact hd
theorem JC(x q:List Nat):∀(cs:List Nat) (s2:Option Sl),(∀c∈cs,c∈q∧c<128)→∃s2',y7 (gNm 2) heB (cs.map zD) [some (.val (yo (ct x))),some (.val (yo (ct q))),s2]=if cs.all (okS x q)=true then .nx [some (.val (yo (ct x))),some (.val (yo (ct q))),s2'] else .rt (.bl false):=by
 intro l_
 induction l_ with
 |nil=>
  rintro s2 _
  exact⟨s2,rfl⟩
 |cons c cs ih_=>
  rintro s2 h
  obtain⟨h1,h2⟩:=h c (mem_cons_self ..)
  obtain⟨s2',ih⟩:=ih_ (some (.val (zD c))) fun d hd=>h d (mem_cons_of_mem _ hd)
  have hb:=Lo x q c h1 h2
  have hset:gNm 2 (zD c) [some (.val (yo (ct x))),some (.val (yo (ct q))),s2]=.ok [some (.val (yo (ct x))),some (.val (yo (ct q))),some (.val (zD c))]:=rfl
  refine⟨s2',?_⟩
  rw[map_cons,y7,hset,Fl.of_ok,List.all_cons]
  cases z:okS x q c with
  |false=>
   rw[z] at hb
   simp only[Bool.false_eq_true,if_false] at hb
   simp only[hb]
   rfl
  |true=>
   rw[z] at hb
   simp only[if_true] at hb
   simp only[hb,ih,Bool.true_and]
theorem Qz(x q:List Nat)(hq:∀c∈q,c<128):xA [yo (ct x),yo (ct q)]=.ok (.bl (q.all (okS x q))):=by
 have st:zX 3 [yo (ct x),yo (ct q)]=[some (.val (yo (ct x))),some (.val (yo (ct q))),none]:=rfl
 have hi:YS (ze 1) [some (.val (yo (ct x))),some (.val (yo (ct q))),none]=.ok ((kl q).map zD):=by
  unfold YS
  rw[zo (d:=yo (ct q)) rfl,Rs.bind_ok]
  show Rs.ok ((((ct q).map fun p=>(Sum.inr p.1:Key))).map UA)=_
  have e:(((ct q).map fun p=>(Sum.inr p.1:Key))).map UA=((ct q).map (·.1)).map D.str:=by rw[map_map,map_map];rfl
  rw[e,Js,map_map];rfl
 obtain⟨s2,hl⟩:=JC x q (kl q) none fun c hc=>⟨kl_mem.mp hc,hq c (kl_mem.mp hc)⟩
 have ea:(kl q).all (okS x q)=q.all (okS x q):=by
  rw[Bool.eq_iff_iff,all_eq_true,all_eq_true]
  exact⟨fun h c hc=>h c (kl_mem.mpr hc),fun h c hc=>h c (kl_mem.mp hc)⟩
 rw[ea] at hl
 have eB:j8=zS (ut (YS (ze 1)) (gNm 2) heB) (yK (eC (.bl true))):=rfl
 have sF:∀{fi:FA} {set:FG} {fb:FS} {τ:DS},ut fi set fb τ=Fl.of (fi τ) fun ds=>y7 set fb ds τ:=rfl
 unfold xA
 rw[eB,yc,st,zP,sF,hi,Fl.of_ok,hl]
 cases q.all (okS x q) <;> rfl
theorem JT:∀c,97≤c∧c≤122→up1 c=c-32:=by
 have:∀c,c<123→97≤c→up1 c=c-32:=by decide +kernel
 exact fun c h=>this c (by lia) h.1
theorem YH{a c:Nat}(h:xk a c=true):a=c∨((97≤a∧a≤122)∧c=a-32):=by
 unfold xk at h
 rw[Bool.or_eq_true] at h
 rcases h with h|h
 ·exact .inl (by simpa using h)
 ·rw[Bool.and_eq_true] at h
  have h1:97≤a∧a≤122:=of_decide_eq_true h.1
  refine .inr ⟨h1,?_⟩
  have:up1 a=c:=by simpa using h.2
  rw[← this,JT a h1]
noncomputable def Xc(w:Nat→Nat)(l:List Nat):Nat:=(l.map w).sum
theorem w5(w:Nat→Nat)(a:Nat)(l:List Nat):Xc w (a::l)=w a+Xc w l:=by simp[Xc]
theorem jK(w:Nat→Nat)(hw:∀a c,xk a c=true→w a≤w c):∀(q x:List Nat),vM q x=true→Xc w q≤Xc w x
 |[],x,_=>by simp[Xc]
 |_::_,[],h=>by simp[vM] at h
 |a::q,c::x,h=>by
  unfold vM at h
  rw[w5 w c x]
  split at h
  ·rename_i hm
   have:=jK w hw q x h
   have:=hw a c hm
   rw[w5];lia
  ·have:=jK w hw (a::q) x h
   lia
theorem va(c:Nat)(l:List Nat):l.count c=Xc (fun d=>if d=c then 1 else 0) l:=by
 induction l with
 |nil=>rfl
 |cons d l ih=>
  rw[w5]
  by_cases h:d=c
  ·subst h;rw[List.count_cons_self,ih,if_pos rfl];lia
  ·rw[List.count_cons_of_ne h,ih,if_neg h];lia
theorem UO(v w:Nat→Nat)(l:List Nat):Xc v l+Xc w l=Xc (fun d=>v d+w d) l:=by
 induction l with
 |nil=>rfl
 |cons d l ih=>rw[w5,w5,w5,← ih];lia
theorem za8(c:Nat):Me c=true↔97≤c∧c≤122:=by
 unfold Me
 rw[decide_eq_true_eq,List.mem_range'_1];lia
theorem uM(q x:List Nat)(h:vM q x=true):q.all (okS x q)=true:=by
 rw[all_eq_true]
 intro c _
 unfold okS
 rw[Bool.and_eq_true,Bool.not_eq_true',Bool.not_eq_true',Bool.and_eq_false_iff,Bool.and_eq_false_iff]
 have hs:sag q c≤sag x c:=by
  unfold sag
  rw[va,va,va,va,UO,UO]
  refine jK _ (fun a d hm=>?_) q x h
  rcases YH hm with rfl|⟨h1,rfl⟩
  ·exact le_refl _
  ·by_cases u:65≤c∧c≤90
   ·rw[show loC c=c+32 from if_pos u,show upC c=c from if_neg (by lia)]
    split <;> split <;> split <;> split <;> lia
   ·rw[show loC c=c from if_neg u]
    by_cases v:97≤c∧c≤122
    ·rw[show upC c=c-32 from if_pos v]
     split <;> split <;> split <;> split <;> lia
    ·rw[show upC c=c from if_neg v]
     split <;> split <;> lia
 refine⟨?_,.inr (by simpa using hs)⟩
 cases hc:Me c with
 |true=>exact .inl rfl
 |false=>
  refine .inr ?_
  have hn:¬ (97≤c∧c≤122):=fun z=>by rw[(za8 c).mpr z] at hc;cases hc
  have:q.count c≤x.count c:=by
   rw[va,va]
   refine jK _ (fun a d hm=>?_) q x h
   rcases YH hm with rfl|⟨h1,rfl⟩
   ·exact le_refl _
   ·rw[if_neg (by lia)];lia
  simpa using this
theorem GI{q q':List Nat}(p:q.Perm q')(x:List Nat):q.all (okS x q)=q'.all (okS x q'):=by
 have e:∀c,okS x q c=okS x q' c:=fun c=>by
  unfold okS sag
  rw[p.count_eq c,p.count_eq (loC c),p.count_eq (upC c)]
 rw[Bool.eq_iff_iff,all_eq_true,all_eq_true]
 exact⟨fun h c hc=>by rw[← e];exact h c (p.mem_iff.mpr hc),fun h c hc=>by rw[e];exact h c (p.mem_iff.mp hc)⟩
theorem GJ{q:List Nat}(r x:List Nat)(h:(q++r).all (okS x (q++r))=true):q.all (okS x q)=true:=by
 rw[all_eq_true] at h ⊢
 intro c hc
 have:=h c (by simp[hc])
 unfold okS sag at this ⊢
 rw[Bool.and_eq_true,Bool.not_eq_true',Bool.not_eq_true',Bool.and_eq_false_iff,Bool.and_eq_false_iff] at this ⊢
 simp only[List.count_append,decide_eq_false_iff_not] at this ⊢
 refine⟨this.1.imp id fun h=>by lia,this.2.imp id fun h=>by lia⟩
noncomputable def SV(X:List (List Nat)):Fs:=[("counts", .lst (X.map fun x=>yo (ct x)))]
theorem W1(X:List (List Nat))(hl:X.length≤1000)(hX:∀x∈X,x.length≤1000):yn [] [.lst (X.map tx)]=.ok (.non,SV X):=by
 have st:vE (.obj 1 "Sieve" []) 0 2 [.lst (X.map tx)]=[some (.obj 1 "Sieve" []),some (.val (.lst (X.map tx)))]:=rfl
 have cm:=vT (set:=gNm 0) (fe:=zr yd (za (ze 0) zj)) (τ:=[none]) tx (fun x=>yo (ct x)) id X fun x hx=>⟨[some (.val (tx x))],rfl,VV (zo rfl) (Zz x (hX x hx))⟩
 have hit:wb (ze 1) [some (.obj 1 "Sieve" []),some (.val (.lst (X.map tx)))]=.ok (X.map tx):=rfl
 have ec:=wI (k:=1) (idx:=[]) (τ:=[some (.obj 1 "Sieve" []),some (.val (.lst (X.map tx)))]) hit cm (by simp;lia)
 rw[List.map_id] at ec
 unfold yn W9 vV
 rw[st,M6 (fs:=[]) ec rfl (by decide)]
 rfl
theorem M7(X:List (List Nat))(x:List Nat)(hl:X.length≤1000)(hx:x.length≤1000):xn (SV X) [tx x]=.ok (.int (X.length:Int),SV (X++[x])):=by
 have st:vE (.obj 1 "Sieve" (SV X)) 0 2 [tx x]=[some (.obj 1 "Sieve" (SV X)),some (.val (tx x))]:=rfl
 have hp:Zj "counts" (.lst ((X.map fun x=>yo (ct x))++[yo (ct x)])) (SV X)=SV (X++[x]):=by
  unfold SV
  rw[Zj,if_pos rfl,map_append];rfl
 have hf:vi "counts" (SV (X++[x]))=some (.lst ((X++[x]).map fun x=>yo (ct x))):=rfl
 have hr:eOp jL (VO 0 "Sieve" "counts") (eC (.int 1)) [some (.obj 1 "Sieve" (SV (X++[x]))),some (.val (tx x))]=.ok (.int (X.length:Int)):=by
  rw[op2 (len_A (LW (GL rfl) hf)) rfl vD]
  simp
 unfold xn W9 ZT
 rw[st,x6 (LJ (ds:=X.map fun x=>yo (ct x)) (d:=yo (ct x)) rfl rfl (VV (zo rfl) (Zz x hx)) (by simpa using hl)),hp]
 show flM 0 "Sieve" (W7 _ [some (.obj 1 "Sieve" (SV (X++[x]))),some (.val (tx x))])=_
 rw[Tg hr]
 rfl
theorem Y3(f:List Nat→D):∀(X:List (List Nat)) (j:Nat),y9 j (X.map f)=(List.range' j X.length).map fun k=>D.tup [.int (k:Nat),f (X.getD (k-j) [])]:=by
 intro l_
 induction l_ with
 |nil=>
  rintro j
  exact rfl
 |cons x X ih_=>
  rintro j
  rw[map_cons,y9,ih_ (j+1),length_cons,range'_succ,map_cons]
  congr 1
  ·simp
  ·apply map_congr_left
   intro k hk
   rw[List.mem_range'_1] at hk
   have:k-j=(k-(j+1))+1:=by lia
   rw[this];rfl
noncomputable def zx(X:List (List Nat))(q:List Nat):List Nat:=(List.range X.length).filter fun k=>q.all (okS (X.getD k []) q)
theorem Jo(X:List (List Nat))(q:List Nat)(hl:X.length≤1000)(hq:q.length≤1000)(sq:∀c∈q,c<128):zQ (SV X) [tx q]=.ok (.lst ((zx X q).map fun (k:Nat)=>D.int k)):=by
 have st:vE (.obr "Sieve" (SV X)) 0 3 [tx q]=[some (.obr "Sieve" (SV X)),some (.val (tx q)),none]:=rfl
 have e1:zr yd (za (ze 1) zj) [some (.obr "Sieve" (SV X)),some (.val (tx q)),none]=.ok (yo (ct q)):=VV (zo rfl) (Zz q hq)
 have hit:Ll 0 "Sieve" "counts" [some (.obr "Sieve" (SV X)),some (.val (tx q)),some (.val (yo (ct q)))]=.ok ((List.range X.length).map fun k=>D.tup [.int (k:Nat),yo (ct (X.getD k []))]):=by
  unfold Ll
  rw[LW (ds:=X.map fun x=>yo (ct x)) (ob_r rfl) rfl,Rs.bind_ok,Y3 (fun x=>yo (ct x)) X 0,← range_eq_range']
  rfl
 have cf:=wk (set:=gPr 0 1) (ft:=ux (zr xA (za (ze 1) (za (ze 2) zj)))) (fe:=ze 0) (τ:=[none,none,some (.val (yo (ct q)))]) (fun k=>D.tup [.int (k:Nat),yo (ct (X.getD k []))]) (fun (k:Nat)=>D.int k) (fun k=>q.all (okS (X.getD k []) q)) (List.range X.length) fun k _=>⟨[some (.val (.int (k:Nat))),some (.val (yo (ct (X.getD k [])))),some (.val (yo (ct q)))],rfl,by
  rw[wB,uP (zo rfl) (zo rfl) (Qz (X.getD k []) q sq)];rfl,rfl⟩
 have hle:(zx X q).length≤X.length:=by
  unfold zx
  have:=length_filter_le (fun k=>q.all (okS (X.getD k []) q)) (List.range X.length)
  simpa using this
 have ec:=wI (k:=2) (idx:=[2]) (τ:=[some (.obr "Sieve" (SV X)),some (.val (tx q)),some (.val (yo (ct q)))]) hit cf (by rw[length_map];unfold zx at hle;lia)
 unfold zQ Ua Zb
 rw[st,x6 (Zh e1)]
 show YW (yK _ [some (.obr "Sieve" (SV X)),some (.val (tx q)),some (.val (yo (ct q)))])=_
 rw[Q9 (d:=.lst ((zx X q).map fun (k:Nat)=>D.int k)) (by simp only[ec,Rs.bind_ok];rfl)]
 rfl
theorem ZN{α β:Type}(p:α→Bool)(F:α→List β):∀(l:List α),(∀i∈l,p i=false→F i=[])→(l.filter p).flatMap F=l.flatMap F:=by
 intro l_
 induction l_ with
 |nil=>
  rintro _
  exact rfl
 |cons i l ih_=>
  rintro h
  have ih:=ih_ fun j hj=>h j (mem_cons_of_mem _ hj)
  rw[List.filter_cons,flatMap_cons]
  cases z:p i with
  |true=>simp only[if_true];rw[flatMap_cons,ih]
  |false=>simp only[Bool.false_eq_true,if_false];rw[ih,h i (mem_cons_self ..) z,nil_append]
theorem Mu(X:List (List Nat))(q:List Nat):Z1 X q (zx X q)=wc X q:=by
 unfold zx wc Z1
 refine ZN _ _ _ fun i _ hp=>?_
 have hs:vM q (X.getD i [])=false:=by
  cases z:vM q (X.getD i []) with
  |false=>rfl
  |true=>rw[uM q _ z] at hp;cases hp
 unfold fr1
 rw[UE q _ hs];rfl
noncomputable def yP(X:List (List Nat))(q:List Nat):List (List Nat):=(zx X q).map fun k=>X.getD k []
theorem Zu(X:List (List Nat))(q:List Nat){i:Nat}(h:i<(zx X q).length):(yP X q).getD i []=X.getD ((zx X q).getD i 0) []:=by
 unfold yP
 simp[getD_eq_getElem?_getD,getElem?_eq_getElem h]
theorem Q2(L:List Nat):L=(List.range L.length).map fun i=>L.getD i 0:=by
 apply List.ext_getElem
 ·simp
 ·intro i h1 h2
  simp[getD_eq_getElem?_getD,getElem?_eq_getElem h1]
noncomputable def back(L:List Nat)(r:Rw):Rw:=(r.1,L.getD r.2 0)
theorem MP(X:List (List Nat))(q:List Nat):(wc (yP X q) q).map (back (zx X q))=wc X q:=by
 rw[← Mu X q]
 have e:∀L:List Nat,Z1 X q L=(List.range L.length).flatMap fun i=>(fr1 X q (L.getD i 0)).toList:=fun L=>by
  conv=>lhs;rw[Q2 L]
  unfold Z1
  rw[List.flatMap_map]
 rw[e]
 unfold wc Z1
 have hl:(yP X q).length=(zx X q).length:=by unfold yP;simp
 rw[hl,List.map_flatMap]
 have go:∀(is:List Nat),(∀i∈is,i<(zx X q).length)→(is.flatMap fun i=>List.map (back (zx X q)) (fr1 (yP X q) q i).toList)=is.flatMap fun i=>(fr1 X q ((zx X q).getD i 0)).toList:=fun is=>by
  induction is with
  |nil=>intro _;rfl
  |cons i is ih=>
   intro h
   rw[flatMap_cons,flatMap_cons,ih fun j hj=>h j (mem_cons_of_mem _ hj)]
   congr 1
   unfold fr1
   rw[Zu X q (h i (mem_cons_self ..))]
   cases j6 q (X.getD ((zx X q).getD i 0) []) <;> rfl
 exact go _ fun i hi=>mem_range.mp hi
theorem Qm(X:List (List Nat))(q:List Nat){i j:Nat}(hij:i<j)(hj:j<(zx X q).length):(zx X q).getD i 0<(zx X q).getD j 0:=by
 have hp:(zx X q).Pairwise (· < ·):=by
  unfold zx
  exact List.Pairwise.filter _ List.pairwise_lt_range
 have:=pairwise_iff_getElem.mp hp i j (by lia) hj hij
 simpa[getD_eq_getElem?_getD,getElem?_eq_getElem hj,getElem?_eq_getElem (show i<(zx X q).length by lia)] using this
theorem WC{X:List (List Nat)}{q:List Nat}{r:Rw}(h:r∈wc X q):r.2<X.length:=by
 have:=(uR X q (List.range X.length)).mem (mem_map.mpr ⟨r,h,rfl⟩)
 simpa using this
theorem G9(X:List (List Nat))(q:List Nat):((wc X q).map (wa X)).Nodup:=by
 have nd:((wc X q).map (·.2)).Nodup:=(uR X q (List.range X.length)).nodup List.nodup_range
 have:(wc X q).Pairwise fun a b=>wa X a≠wa X b:=by
  have:=pairwise_map.mp nd
  exact this.imp fun h e=>h (by unfold wa at e;simp at e;lia)
 exact pairwise_map.mpr this
theorem Ux(X:List (List Nat))(q:List Nat):(xD (wa (yP X q)) (wc (yP X q) q)).map (back (zx X q))=xD (wa X) (wc X q):=by
 refine V1 (wa X) ?_ ?_ (G9 X q)
 ·rw[← MP X q]
  exact(xZ (wa (yP X q)) (wc (yP X q) q)).map _
 ·rw[pairwise_map]
  have hs:=XF (wa (yP X q)) (wc (yP X q) q) (G9 _ q)
  refine List.Pairwise.imp_of_mem (fun {a b} ha hb hab=>?_) hs
  have la:a.2<(zx X q).length:=by
   have:=WC ((xZ (wa (yP X q)) (wc (yP X q) q)).mem_iff.mp ha)
   simpa[yP] using this
  have lb:b.2<(zx X q).length:=by
   have:=WC ((xZ (wa (yP X q)) (wc (yP X q) q)).mem_iff.mp hb)
   simpa[yP] using this
  unfold wa at hab ⊢
  simp only[back]
  rw[Zu X q la,Zu X q lb] at hab
  simp only[lxI] at hab ⊢
  split at hab
  ·rename_i h1
   rw[if_pos h1]
   split at hab
   ·rename_i h2
    rw[if_pos h2]
    split at hab
    ·cases hab
    ·rename_i h3
     have:a.2<b.2:=by
      have:=of_decide_eq_true hab
      lia
     have h4:=Qm X q this lb
     rw[if_neg (by lia)]
     exact decide_eq_true (by lia)
   ·rename_i h2
    rw[if_neg h2];exact hab
  ·rename_i h1
   rw[if_neg h1];exact hab
noncomputable def uL:FS:=(sIf (wl (FD.tB (eOp ltI (j4 2) (yZ xj (za (ze 0) zj)))) (ux (zr xH (za (eOp ixD (ze 0) (j4 2)) (za (eOp ixD (ze 1) (ze 3)) zj))))) (Xg 2 (ze 3)) yj)
theorem JE(q x:List Nat)(hq:q.length≤1000)(hx:x.length≤1000)(ha:∀c∈q,c<128):∀(m k:Nat) (b:List Nat) (s:Option Sl),k+m=x.length→b.length≤k →
  ∃s',y7 (gNm 3) uL ((List.range' k m).map fun (k:Nat)=>D.int (0+k)) [some (.val (tx q)),some (.val (tx x)),some (.own (b.map fun (k:Nat)=>D.int k)),s]
   = .nx [some (.val (tx q)),some (.val (tx x)),some (.own ((b++epR (q.drop b.length) (x.drop k) k).map fun (k:Nat)=>D.int k)),s']:=by
 intro l_
 induction l_ with
 |zero=>
  rintro k b s h hb
  have:x.drop k=[]:=List.drop_eq_nil_of_le (by lia)
  rw[this]
  have e:epR (q.drop b.length) [] k=[]:=by cases q.drop b.length <;> rfl
  rw[e,append_nil]
  exact⟨s,rfl⟩
 |succ m ih_=>
  rintro k b s h hb
  have hk:k<x.length:=by lia
  have hxk:=UK x k x[k] (getElem?_eq_getElem hk) hx
  rw[range'_succ,map_cons,y7,jC,Fl.of_ok,drop_eq_getElem_cons hk]
  simp only[set_cons_succ,set_cons_zero,Int.zero_add]
  have ih:=fun b' s' h'=>ih_ (k+1) b' s' (by lia) h'
  simp only[Int.zero_add] at ih
  by_cases hl:b.length<q.length
  ·have hqb:=UK q b.length q[b.length] (getElem?_eq_getElem hl) hq
   have hbz:b.length<sizeLine:=by rw[zL];lia
   have hmt:=YG q[b.length] x[k] (ha _ (getElem_mem hl))
   rw[drop_eq_getElem_cons hl]
   by_cases hm:xk q[b.length] x[k]=true
   ·obtain⟨s',e⟩:=ih (b++[k]) (some (.val (.int k))) (by simp;lia)
    refine⟨s',?_⟩
    have:uL [some (.val (tx q)),some (.val (tx x)),some (.own (b.map fun (k:Nat)=>D.int k)),some (.val (.int k))]=.nx [some (.val (tx q)),some (.val (tx x)),some (.own ((b++[k]).map fun (k:Nat)=>D.int k)),some (.val (.int k))]:=by
     unfold uL
     simp only[yw,zU,vm,j3,xL,wB,wC,yf,zK,zO,zA,yz,wq,getElem?_cons_zero,getElem?_cons_succ,set_cons_succ,set_cons_zero,zE,yX,Rs.bind_ok,Fl.of_ok,xz,zV,vj,Vr,if_true,length_map,vb q hq,Int.ofNat_lt,hl,decide_true,hqb,hxk,hmt,hm,hbz,map_append,map_cons,map_nil]
    simp only[this]
    rw[e]
    simp only[epR,hm,if_true,append_assoc,List.cons_append,nil_append,length_append,length_cons,length_nil,zero_add]
   ·obtain⟨s',e⟩:=ih b (some (.val (.int k))) (by lia)
    refine⟨s',?_⟩
    have hm':xk q[b.length] x[k]=false:=by simpa using hm
    have:uL [some (.val (tx q)),some (.val (tx x)),some (.own (b.map fun (k:Nat)=>D.int k)),some (.val (.int k))]=.nx [some (.val (tx q)),some (.val (tx x)),some (.own (b.map fun (k:Nat)=>D.int k)),some (.val (.int k))]:=by
     unfold uL
     simp only[yw,zU,vm,j3,xL,wB,wC,yf,zK,zO,zA,yz,wq,getElem?_cons_zero,getElem?_cons_succ,set_cons_succ,set_cons_zero,zE,yX,Rs.bind_ok,Fl.of_ok,xz,zV,vj,Vr,if_true,Bool.false_eq_true,if_false,length_map,vb q hq,Int.ofNat_lt,hl,decide_true,hqb,hxk,hmt,hm']
    simp only[this]
    rw[e,drop_eq_getElem_cons hl]
    simp only[epR,hm',Bool.false_eq_true,if_false]
  ·obtain⟨s',e⟩:=ih b (some (.val (.int k))) (by lia)
   refine⟨s',?_⟩
   have:uL [some (.val (tx q)),some (.val (tx x)),some (.own (b.map fun (k:Nat)=>D.int k)),some (.val (.int k))]=.nx [some (.val (tx q)),some (.val (tx x)),some (.own (b.map fun (k:Nat)=>D.int k)),some (.val (.int k))]:=by
    unfold uL
    simp only[yw,zU,vm,j3,xL,wB,wC,yf,zK,zO,zA,yz,wq,getElem?_cons_zero,getElem?_cons_succ,set_cons_succ,set_cons_zero,zE,yX,Rs.bind_ok,Fl.of_ok,zV,Vr,Bool.false_eq_true,if_false,length_map,vb q hq,Int.ofNat_lt,hl,decide_false]
   simp only[this]
   rw[e,List.drop_eq_nil_of_le (by lia:q.length≤b.length)]
   simp only[epR]
theorem ep_ok(q x:List Nat)(hq:q.length≤1000)(hx:x.length≤1000)(ha:∀c∈q,c<128):yI [tx q,tx x]=.ok (nts (epR q x 0)):=by
 have st:zX 4 [tx q,tx x]=[some (.val (tx q)),some (.val (tx x)),none,none]:=rfl
 obtain⟨s',e⟩:=JE q x hq hx ha x.length 0 [] none (by lia) (le_refl _)
 unfold uL at e
 have r1:=Wp (fs:=za (yZ xj (za (ze 1) zj)) zj) (τ:=[some (.val (tx q)),some (.val (tx x)),some (.own []),none]) (j:=x.length) (by simp only[zK,zO,zA,wq,getElem?_cons_zero,getElem?_cons_succ,zE,Rs.bind_ok,vb x hx]) (by lia) (by lia)
 unfold yI vB
 rw[yc,st]
 simp only[zP,wJ,vY,zO,set_cons_succ,set_cons_zero,Rs.bind_ok,Fl.of_ok,yh,if_true,length_nil,zero_le,r1,jb,Int.toNat_natCast]
 rw[range_eq_range']
 rw[show([]:List D)=([]:List Nat).map fun (k:Nat)=>D.int k from rfl,e]
 simp only[wK,wL,getElem?_cons_zero,getElem?_cons_succ,yX,Fl.of_ok,yh,zT,nil_append,length_nil,drop_zero]
theorem Ls(q x:List Nat)(hq:q.length≤1000)(hx:x.length≤1000)(ha:∀c∈q,c<128):uG [tx q,tx x]=.ok (.bl (vM q x)):=by
 have st:zX 2 [tx q,tx x]=[some (.val (tx q)),some (.val (tx x))]:=rfl
 unfold uG MM
 rw[yc,st]
 simp only[zZ,yf,zK,zO,zA,yz,wq,getElem?_cons_zero,getElem?_cons_succ,zE,Rs.bind_ok,Fl.of_ok,zT,xz,up,uH,ep_ok q x hq hx ha,vb q hq,length_map]
 congr 2
 rw[Bool.eq_iff_iff,← Y2 q x 0,beq_iff_eq]
 lia
theorem Qu(r:Nat)(x:List Nat):∀(ks:SI) (τ:DS),r<τ.length→ks.length+x.length≤1000→∃τ',τ'.length=τ.length∧wN (je (ze r)) r (x.map zD) τ ks=some (τ',ctF ks x):=by
 induction x with
 |nil=>intro ks τ _ _;exact⟨τ,rfl,rfl⟩
 |cons d x ih=>
  intro ks τ ht hl
  simp only[length_cons] at hl
  have e:je (ze r) (τ.set r (some (.val (zD d)))) ks=some (τ.set r (some (.val (zD d))),Z0 ks (sg d)):=by
   have v:ze r (τ.set r (some (.val (zD d))))=.ok (.str (sg d)):=zo (by rw[getElem?_set_self ht];rfl)
   unfold je
   rw[v]
   simp only
   rw[if_pos (by lia)];rfl
  have h2:=Ym ks (sg d) ((xK ks (sg d)).getD 0+1)
  obtain⟨τ',hl',h⟩:=ih (Z0 ks (sg d)) (τ.set r (some (.val (zD d)))) (by rw[length_set];exact ht) (by unfold Z0;lia)
  refine⟨τ',by rw[hl',length_set],?_⟩
  rw[map_cons,wN,e]
  exact h
theorem zf6(x:List Nat):(kl x).length≤x.length:=by
 have:=JM x []
 unfold kl
 rw[length_map]
 simpa[ct] using this
noncomputable def jn(ks:SI)(X:List (List Nat)):SI:=X.foldl (fun ks x=>ctF ks (kl x)) ks
theorem Lm{fe:FE}{τ:DS}{x:List Nat}(h:fe τ=.ok (yo (ct x))):YS fe τ=.ok ((kl x).map zD):=by
 unfold YS
 rw[h,Rs.bind_ok]
 show Rs.ok ((((ct x).map fun p=>(Sum.inr p.1:Key))).map UA)=_
 have e:(((ct x).map fun p=>(Sum.inr p.1:Key))).map UA=((ct x).map (·.1)).map D.str:=by rw[map_map,map_map];rfl
 rw[e,Js,map_map];rfl
theorem X7:∀(X:List (List Nat)) (ks:SI) (τ:DS),τ.length=4→(∀x∈X,x.length≤10)→ks.length+10*X.length≤900→∃τ',wN (YU (YS (ze 2)) 3 (je (ze 3))) 2 (X.map fun x=>yo (ct x)) τ ks=some (τ',jn ks X)∧(jn ks X).length≤ks.length+10*X.length:=by
 intro l_
 induction l_ with
 |nil=>
  rintro ks τ _ _ _
  exact⟨τ,rfl,by simp[jn]⟩
 |cons x X ih_=>
  rintro ks τ ht hX hl
  simp only[length_cons] at hl
  have hx:=hX x (mem_cons_self ..)
  have hk:=zf6 x
  obtain⟨τ1,l1,h1⟩:=Qu 3 (kl x) ks (τ.set 2 (some (.val (yo (ct x))))) (by rw[length_set,ht];decide) (by lia)
  have e:YU (YS (ze 2)) 3 (je (ze 3)) (τ.set 2 (some (.val (yo (ct x))))) ks=some (τ1,ctF ks (kl x)):=by
   unfold YU
   rw[Lm (x:=x) (zo (by rw[getElem?_set_self (by rw[ht];decide)]))]
   exact h1
  have hc:=JM (kl x) ks
  obtain⟨τ',h2,h3⟩:=ih_ (ctF ks (kl x)) τ1 (by rw[l1,length_set,ht]) (fun y hy=>hX y (mem_cons_of_mem _ hy)) (by lia)
  refine⟨τ',?_,?_⟩
  ·rw[map_cons,wN,e];exact h2
  ·show(jn (ctF ks (kl x)) X).length≤_
   simp only[length_cons];lia
theorem UV:∀(X:List (List Nat)) (ks:SI),(ks.map (·.1)).Nodup→((jn ks X).map (·.1)).Nodup:=by
 intro l_
 induction l_ with
 |nil=>
  rintro ks h
  exact h
 |cons x X ih_=>
  rintro ks h
  exact ih_ _ (zh9 (kl x) ks h)
theorem W2(X:List (List Nat))(hl:X.length≤5)(hX:∀x∈X,x.length≤10):yr (SV X) []=.ok (vI (jn [] X)):=by
 have st:vE (.obr "Sieve" (SV X)) 0 4 []=[some (.obr "Sieve" (SV X)),none,none,none]:=rfl
 obtain⟨τ',h1,h2⟩:=X7 X [] [none,none,none,none] rfl hX (by simp;lia)
 unfold yr Ua jm
 rw[st]
 unfold Wm
 rw[ro_ok (fs:=SV X) (ds:=X.map fun x=>yo (ct x)) rfl rfl]
 simp only
 rw[if_pos ⟨rfl,show 1<4 by decide,by decide⟩]
 show YW (match wN (YU (YS (ze 2)) 3 (je (ze 3))) 2 (X.map fun x=>yo (ct x)) [none,none,none,none] [] with
  |some p=>if p.2.length<64∧(p.2.map (·.1)).Nodup then .rt (vI p.2) else .no
  |none=>.no)=_
 rw[h1]
 simp only
 rw[if_pos ⟨by simp at h2;lia,UV X [] (by simp)⟩]
 rfl
theorem W4:∀(X:List (List Nat)) (ks:SI) {k:Str},k∈(jn ks X).map (·.1)→k∈ks.map (·.1)∨∃x∈X,∃c∈x,k=sg c:=by
 intro l_
 induction l_ with
 |nil=>
  rintro ks k h
  exact .inl h
 |cons x X ih_=>
  rintro ks k h
  have go:∀(l:List Nat) (ks:SI),k∈(ctF ks l).map (·.1)→k∈ks.map (·.1)∨∃c∈l,k=sg c:=fun l=>by
   induction l with
   |nil=>intro ks h;exact .inl h
   |cons d l ih=>
    intro ks h
    rcases ih _ h with z|⟨c,hc,e⟩
    ·rcases Vb z with z|z
     ·exact .inl z
     ·exact .inr ⟨d,by simp,z⟩
    ·exact .inr ⟨c,by simp[hc],e⟩
  rcases ih_ _ h with z|⟨y,hy,c,hc,e⟩
  ·rcases go _ _ z with z|⟨c,hc,e⟩
   ·exact .inl z
   ·exact .inr ⟨x,by simp,c,kl_mem.mp hc,e⟩
  ·exact .inr ⟨y,by simp[hy],c,hc,e⟩
theorem Yw:∀(ps:SI),(∀p∈ps,∃c,p.1=sg c∧c<128)→plainDs (ps.map wu)=true∧PyData.canLayAll0 (toPys (ps.map wu))=true∧PyData.depthAll (toPys (ps.map wu))≤1∧PyData.eqvAll (toPys (ps.map wu)) (toPys (ps.map wu))=true:=by
 intro l_
 induction l_ with
 |nil=>
  rintro _
  exact⟨rfl,rfl,by decide,by simp[toPys,PyData.eqvAll]⟩
 |cons p ps ih_=>
  rintro h
  obtain⟨a,b,c,d⟩:=ih_ fun q hq=>h q (mem_cons_of_mem _ hq)
  obtain⟨k,hk,hl⟩:=h p (mem_cons_self ..)
  have h2:PyData.strOk p.1=true:=by rw[hk];simp[PyData.strOk,sg];lia
  refine⟨by simp[plainDs,xQ,wu,a],by simp[toPys,xJ,wu,PyData.canLayAll0,PyData.canLay0,h2,b],?_,by simp[toPys,xJ,wu,PyData.eqvAll,PyData.eqv,d]⟩
  simp only[map_cons,toPys,wu,xJ,PyData.depthAll,PyData.depth]
  lia
theorem Mc(X:List (List Nat))(hX:∀x∈X,∀c∈x,c<128):eqD (vI (jn [] X)) (vI (jn [] X))=.ok (.bl true):=by
 have e:vI (jn [] X)=.lst ((xD (fun p=>cpI p.1) (jn [] X)).map wu):=by unfold vI;rw[UR]
 rw[e]
 obtain⟨a,b,c,d⟩:=Yw (xD (fun p=>cpI p.1) (jn [] X)) fun p hp=>by
  have hp:=(xZ _ _).mem_iff.mp hp
  rcases W4 X [] (mem_map.mpr ⟨p,hp,rfl⟩) with z|⟨x,hx,c,hc,e⟩
  ·simp at z
  ·exact⟨c,e,hX x hx c hc⟩
 have ok:okD (.lst ((xD (fun p=>cpI p.1) (jn [] X)).map wu))=true:=by
  simp only[okD,xQ,xJ,PyData.canLay0,PyData.depth,a,b,Bool.true_and,Bool.and_true,decide_eq_true_eq]
  first|lia | (simp;lia) | exact⟨trivial,by lia⟩
 simp only[eqD,ok,and_self,if_true,wT,xJ,PyData.eqv,d]
theorem u6:∀(l:List Nat),plainDs (l.map fun (k:Nat)=>D.int k)=true∧PyData.canLayAll0 (toPys (l.map fun (k:Nat)=>D.int k))=true∧PyData.depthAll (toPys (l.map fun (k:Nat)=>D.int k))=0∧PyData.eqvAll (toPys (l.map fun (k:Nat)=>D.int k)) (toPys (l.map fun (k:Nat)=>D.int k))=true:=by
 intro l_
 induction l_ with
 |nil=>
  exact⟨rfl,rfl,rfl,by simp[toPys,PyData.eqvAll]⟩
 |cons a r ih_=>
  obtain⟨h1,h2,h3,h4⟩:=ih_
  exact⟨by simp[plainDs,xQ,h1],by simp[toPys,xJ,PyData.canLayAll0,PyData.canLay0,h2],by simp[toPys,xJ,PyData.depthAll,PyData.depth,h3],by simp[toPys,xJ,PyData.eqvAll,PyData.eqv,h4]⟩
theorem Ul(l:List Nat):okD (nts l)=true:=by
 obtain⟨a,b,c,_⟩:=u6 l
 simp[okD,xQ,xJ,PyData.canLay0,PyData.depth,a,b,c]
theorem YE(l:List Nat):neD (nts l) (nts l)=.ok (.bl false):=by
 obtain⟨_,_,_,d⟩:=u6 l
 have ok:=Ul l
 unfold nts at ok ⊢
 simp only[neD,ok,and_self,if_true,wT,xJ,PyData.eqv,d,Bool.not_true]
theorem ze5(l:List Nat):eqD (nts l) (nts l)=.ok (.bl true):=by
 obtain⟨_,_,_,d⟩:=u6 l
 have ok:=Ul l
 unfold nts at ok ⊢
 simp only[eqD,ok,and_self,if_true,wT,xJ,PyData.eqv,d]
theorem GR:neD (.lst []) (.lst [])=.ok (.bl false):=YE []
theorem TX(i:Int):okD (.int i)=true:=by simp[okD,xQ,xJ,PyData.canLay0,PyData.depth]
theorem XQ(k:Nat)(L:List Nat):x9 (.int (k:Int)) (nts L)=.ok (.bl (!L.contains k)):=by
 unfold x9
 have:inD (.int (k:Int)) (nts L)=.ok (.bl (L.contains k)):=by
  show(if okD (.int (k:Int))=true∧okD (nts L)=true then Rs.ok (D.bl ((L.map fun (k:Nat)=>D.int k).any fun y=>wT y (.int (k:Int)))) else Rs.no)=_
  rw[if_pos ⟨TX _,Ul L⟩,List.any_map]
  refine congrArg Rs.ok (congrArg D.bl ?_)
  rw[Bool.eq_iff_iff,List.any_eq_true,List.contains_iff_mem]
  constructor
  ·rintro⟨r,hr,e⟩
   have:((r:Nat):Int)=k:=by
    have e:PyData.eqv (PyData.int _) (PyData.int _)=true:=e
    simpa[PyData.eqv] using e
   have:r=k:=by lia
   rw[← this];exact hr
  ·intro h
   refine⟨k,h,?_⟩
   show PyData.eqv (PyData.int _) (PyData.int _)=true
   simp[PyData.eqv]
 rw[this];rfl
theorem ns_lt:∀c∈NS,c<128:=by decide +kernel
theorem qs_lt:∀c∈QS,c<128:=by decide +kernel
theorem XY{q q':List Nat}(p:q.Perm q')(X:List (List Nat)):zx X q=zx X q':=by
 unfold zx
 exact List.filter_congr fun k _=>GI p _
theorem G3(X:List (List Nat)):zx X []=List.range X.length:=by
 unfold zx
 exact List.filter_eq_self.mpr fun k _=>rfl
theorem Jp{X:List (List Nat)}{q:List Nat}{k:Nat}(h:k∈zx X q):k<X.length:=by
 unfold zx at h
 exact mem_range.mp (mem_filter.mp h).1
theorem za3(a b:List Nat)(h:a.length+b.length≤16777216):zW (tx a) (tx b)=.ok (tx (a++b)):=by
 show(if _ then Rs.ok (D.str _) else Rs.no)=_
 rw[if_pos (by rw[ve,ve];exact h),UP]
theorem za9{fe:FE}{τ:DS}(q:List Nat)(hq:q.length≤1000)(h:fe τ=.ok (tx q)):∃q',q.Perm q'∧eOp zW (eSl fe (wn (eC (.int 1))) vQ) (eSl fe vQ (wn (eC (.int 1)))) τ=.ok (tx q'):=by
 have ho:wn (eC (.int 1)) τ=.ok (some 1):=rfl
 have hto:=QZ q 1
 have a2:eSl fe vQ (wn (eC (.int 1))) τ=.ok (tx (q.take 1)):=by
  rw[WK,h,Rs.bind_ok,Vm,Rs.bind_ok,ho,Rs.bind_ok]
  show(if (⟨q.toArray⟩:Str).length≤sizeLine then Rs.ok (D.str (Txt.slice ⟨q.toArray⟩ none (some ((1:Nat):Int)))) else .no)=_
  rw[if_pos (by rw[ve,zL];lia),hto]
 have a1:eSl fe (wn (eC (.int 1))) vQ τ=.ok (tx (q.drop 1)):=by
  rw[WK,h,Rs.bind_ok,ho,Rs.bind_ok,Vm,Rs.bind_ok]
  show(if (⟨q.toArray⟩:Str).length≤sizeLine then Rs.ok (D.str (Txt.slice ⟨q.toArray⟩ (some ((1:Nat):Int)) none)) else .no)=_
  rw[if_pos (by rw[ve,zL];lia)]
  by_cases hz:1≤q.length
  ·rw[V6 q 1 hz]
  ·have:q=[]:=List.length_eq_zero_iff.mp (by lia)
   subst this
   rfl
 refine⟨q.drop 1++q.take 1,?_,op2 a1 a2 ?_⟩
 ·exact((List.take_append_drop 1 q).symm ▸ List.perm_append_comm:(q.take 1++q.drop 1).Perm (q.drop 1++q.take 1)) |> fun p=>by
   rw[List.take_append_drop] at p;exact p
 ·exact za3 _ _ (by simp;lia)
theorem UY{fe:FE}{τ:DS}{n:Nat}(h:fe τ=.ok (.int (n:Int)))(hn:n≤1000):(fun τ=>((uo (wM (za fe zj))) τ).bind fun ds=>.ok (.lst ds):FE) τ=.ok (nts (List.range n)):=by
 have r:=Yl h hn
 rw[UZ] at r
 show((uo (wM (za fe zj))) τ).bind _=_
 unfold uo
 rw[r,Rs.bind_ok,if_pos (by rw[length_map,length_range];lia)];rfl
noncomputable def adE:FOb:=jg 1 "Sieve" "add" xn (za (ze 0) zj)
theorem adds:∀(X W:List (List Nat)) (a0:Option Sl),(∀x∈X,x.length≤1000)→W.length+X.length≤1000→∃a0',uN (gNm 0) adE (X.map tx) [a0,some (.obj 1 "Sieve" (SV W))]=.ok ((List.range' W.length X.length).map fun (k:Nat)=>D.int k,[a0',some (.obj 1 "Sieve" (SV (W++X)))]):=by
 intro l_
 induction l_ with
 |nil=>
  rintro W a0 _ _
  exact⟨a0,by simp[uN]⟩
 |cons x X ih_=>
  rintro W a0 hX hl
  simp only[length_cons] at hl
  obtain⟨a0',ih⟩:=ih_ (W++[x]) (some (.val (tx x))) (fun y hy=>hX y (mem_cons_of_mem _ hy)) (by simp;lia)
  have e:adE [some (.val (tx x)),some (.obj 1 "Sieve" (SV W))]=.ok (.int (W.length:Int),[some (.val (tx x)),some (.obj 1 "Sieve" (SV (W++[x])))]):=by
   unfold adE
   exact T3 (n:=1) (o:=SV W) rfl rfl (MO (zo rfl)) (M7 W x (by lia) (hX x (mem_cons_self ..)))
  have hs:gNm 0 (tx x) [a0,some (.obj 1 "Sieve" (SV W))]=.ok [some (.val (tx x)),some (.obj 1 "Sieve" (SV W))]:=rfl
  refine⟨a0',?_⟩
  rw[map_cons,uN,hs]
  simp only[e,ih,length_cons,range'_succ,map_cons,length_append,length_nil,append_assoc,List.cons_append,nil_append]
section
variable(ns:List Int)(X:List (List Nat))(q:List Nat)
noncomputable abbrev S8(a4 a5 a6 a7:Option Sl):DS:=[some (.val (.scr ns)),some (.val (.lst (X.map tx))),some (.val (tx q)),some (.obj 0 "Sieve" (SV X)),a4,a5,a6,a7]
variable{ns X q}{a4 a5 a6 a7:Option Sl}
theorem lf{fe:FE}{q':List Nat}(hl:X.length≤5)(hq:q'.length≤1000)(sq:∀c∈q',c<128)(h:fe (S8 ns X q a4 a5 a6 a7)=.ok (tx q')):yY 3 "Sieve" "left" zQ (za fe zj) (S8 ns X q a4 a5 a6 a7)=.ok (nts (zx X q')):=
 jX (o:=SV X) (GL rfl) rfl (MO h) (Jo X q' (by lia) hq sq)
theorem c5(hl:X.length≤5)(hX:∀x∈X,x.length≤10)(hq:q.length≤10)(sq:∀c∈q,c<128) :
  FD.tB (eOp neD (fun τ=>((xI 2 [2,4] (iEn (za (ze 1) zj)) (gPr 0 1) (wl (ux (zr uG (za (ze 2) (za (ze 1) zj)))) (FD.tB (eOp x9 (ze 0) (ze 3)))) (ze 0)) τ).bind fun ds=>.ok (.lst ds)) (vJ zj)) (S8 ns X q (some (.val (nts (zx X q)))) a5 a6 a7)=.ok false:=by
 have hit:iEn (za (ze 1) zj) (S8 ns X q (some (.val (nts (zx X q)))) a5 a6 a7)=.ok ((List.range X.length).map fun k=>D.tup [.int (k:Nat),tx (X.getD k [])]):=by
  show Rs.ok (y9 0 (X.map tx))=_
  rw[Y3 tx X 0,← range_eq_range'];rfl
 have cf:=wk (set:=gPr 0 1) (ft:=wl (ux (zr uG (za (ze 2) (za (ze 1) zj)))) (FD.tB (eOp x9 (ze 0) (ze 3)))) (fe:=ze 0) (τ:=[none,none,some (.val (tx q)),some (.val (nts (zx X q)))]) (fun k=>D.tup [.int (k:Nat),tx (X.getD k [])]) (fun (k:Nat)=>D.int k) (fun k=>vM q (X.getD k []) && !(zx X q).contains k) (List.range X.length) fun k hk=>⟨[some (.val (.int (k:Nat))),some (.val (tx (X.getD k []))),some (.val (tx q)),some (.val (nts (zx X q)))],rfl,by
  have hx:(X.getD k []).length≤1000:=by
   have:=hX _ (getD_mem (mem_range.mp hk));lia
  refine UH ?_ (wU (op2 (zo rfl) (zo rfl) (XQ k _)))
  rw[wB,uP (zo rfl) (zo rfl) (Ls q _ (by lia) hx sq)];rfl,rfl⟩
 have hn:(List.range X.length).filter (fun k=>vM q (X.getD k []) && !(zx X q).contains k)=[]:=by
  rw[List.filter_eq_nil_iff]
  intro k hk hh
  rw[Bool.and_eq_true,Bool.not_eq_true'] at hh
  have:k∈zx X q:=by
   unfold zx
   exact mem_filter.mpr ⟨hk,uM q _ hh.1⟩
  have h2:=List.contains_iff_mem.mpr this
  rw[hh.2] at h2;cases h2
 rw[hn] at cf
 have ec:=wI (k:=2) (idx:=[2,4]) (τ:=S8 ns X q (some (.val (nts (zx X q)))) a5 a6 a7) hit cf (by simp)
 exact wU (op2 (a:=.lst []) (by simp only[ec,Rs.bind_ok];rfl) T0 GR)
theorem c9(hl:X.length≤5){r:List Nat} :
  FD.tB (eOp neD (fun τ=>((xI 1 [4] (wb (ze 5)) (gNm 0) (FD.tB (eOp x9 (ze 0) (ze 1))) (ze 0)) τ).bind fun ds=>.ok (.lst ds)) (vJ zj)) (S8 ns X q (some (.val (nts (zx X q)))) (some (.val (nts (zx X (q++r))))) a6 a7)=.ok false:=by
 have hit:wb (ze 5) (S8 ns X q (some (.val (nts (zx X q)))) (some (.val (nts (zx X (q++r))))) a6 a7)=.ok ((zx X (q++r)).map fun (k:Nat)=>D.int k):=rfl
 have cf:=wk (set:=gNm 0) (ft:=FD.tB (eOp x9 (ze 0) (ze 1))) (fe:=ze 0) (τ:=[none,some (.val (nts (zx X q)))]) (fun (k:Nat)=>D.int k) (fun (k:Nat)=>D.int k) (fun k=>!(zx X q).contains k) (zx X (q++r)) fun k hk=>⟨[some (.val (.int (k:Nat))),some (.val (nts (zx X q)))],rfl,wU (op2 (zo rfl) (zo rfl) (XQ k _)),rfl⟩
 have hn:(zx X (q++r)).filter (fun k=>!(zx X q).contains k)=[]:=by
  rw[List.filter_eq_nil_iff]
  intro k hk hh
  rw[Bool.not_eq_true'] at hh
  have:k∈zx X q:=by
   unfold zx at hk ⊢
   obtain⟨a,b⟩:=mem_filter.mp hk
   exact mem_filter.mpr ⟨a,GJ r _ b⟩
  have h2:=List.contains_iff_mem.mpr this
  rw[hh] at h2;cases h2
 rw[hn] at cf
 have ec:=wI (k:=1) (idx:=[4]) (τ:=S8 ns X q (some (.val (nts (zx X q)))) (some (.val (nts (zx X (q++r))))) a6 a7) hit cf (by simp)
 exact wU (op2 (a:=.lst []) (by simp only[ec,Rs.bind_ok];rfl) T0 GR)
end
theorem ML(L:List Nat)(r:Rw):yR (back L r)=.tup [.int r.1,.int ((L.getD r.2 0:Nat):Int)]:=rfl
theorem TZ(L:List Nat)(i:Nat)(h:i<L.length):ixD (nts L) (.int (i:Int))=.ok (.int ((L.getD i 0:Nat):Int)):=by
 refine WF (ZB (by lia) ?_)
 simp[getD_eq_getElem?_getD,getElem?_eq_getElem h]
theorem V2(X:List (List Nat))(q:List Nat):(xD (wa X) (wc X q)).length≤X.length:=by
 have:=(uR X q (List.range X.length)).length_le
 rw[(xZ (wa X) (wc X q)).length_eq]
 simpa[wc] using this
section
variable{ns:List Int}{X:List (List Nat)}{q:List Nat}{a5 a6 a7:Option Sl}
theorem e6_ok(hl:X.length≤5)(hX:∀x∈X,x.length≤10)(hq:q.length≤10)(sq:∀c∈q,c<128) :
  (fun τ=>((xI 2 [4] (wb (zr wo (za (fun τ=>((xI 1 [1] (wb (ze 4)) (gNm 0) (fun _=>.ok true) (eOp ixD (ze 1) (ze 0))) τ).bind fun ds=>.ok (.lst ds)) (za (ze 2) (za (eC (.int 99)) zj))))) (gPr 0 1) (fun _=>.ok true) (wO (za (ze 0) (za (eOp ixD (ze 2) (ze 1)) zj)))) τ).bind fun ds=>.ok (.lst ds):FE) (S8 ns X q (some (.val (nts (zx X q)))) a5 a6 a7)=.ok (.lst ((xD (wa X) (wc X q)).map yR)):=by
 have cm1:=vT (set:=gNm 0) (fe:=eOp ixD (ze 1) (ze 0)) (τ:=[none,some (.val (.lst (X.map tx)))]) (fun (k:Nat)=>D.int k) tx (fun k=>X.getD k []) (zx X q) fun k hk=>⟨[some (.val (.int (k:Nat))),some (.val (.lst (X.map tx)))],rfl,op2 (zo rfl) (zo rfl) (jV X k (Jp hk))⟩
 have lle:(zx X q).length≤X.length:=by
  unfold zx
  have:=length_filter_le (fun k=>q.all (okS (X.getD k []) q)) (List.range X.length)
  simpa using this
 have ec1:=wI (k:=1) (idx:=[1]) (fi:=wb (ze 4)) (τ:=S8 ns X q (some (.val (nts (zx X q)))) a5 a6 a7) (ds:=(zx X q).map fun (k:Nat)=>D.int k) rfl cm1 (by simp;lia)
 have hN:∀x∈yP X q,x.length≤1000:=fun x hx=>by
  obtain⟨k,hk,rfl⟩:=mem_map.mp hx
  have:=hX _ (getD_mem (Jp hk));lia
 have lN:(yP X q).length=(zx X q).length:=by unfold yP;simp
 have hf:=VL (yP X q) q 99 (by lia) hN sq (by lia)
 have sl:=V2 (yP X q) q
 rw[take_of_length_le (by lia)] at hf
 have hfe:zr wo (za (fun τ=>((xI 1 [1] (wb (ze 4)) (gNm 0) (fun _=>.ok true) (eOp ixD (ze 1) (ze 0))) τ).bind fun ds=>.ok (.lst ds)) (za (ze 2) (za (eC (.int 99)) zj))) (S8 ns X q (some (.val (nts (zx X q)))) a5 a6 a7)=.ok (.lst ((xD (wa (yP X q)) (wc (yP X q) q)).map yR)):=
  uq (a:=.lst ((yP X q).map tx)) (by simp only[ec1,Rs.bind_ok];rfl) (zo rfl) rfl hf
 have cm2:=vT (set:=gPr 0 1) (fe:=wO (za (ze 0) (za (eOp ixD (ze 2) (ze 1)) zj))) (τ:=[none,none,some (.val (nts (zx X q)))]) yR yR (back (zx X q)) (xD (wa (yP X q)) (wc (yP X q) q)) fun r hr=>⟨[some (.val (.int r.1)),some (.val (.int (r.2:Int))),some (.val (nts (zx X q)))],rfl,by
  have:r.2<(zx X q).length:=by
   have:=WC ((xZ (wa (yP X q)) (wc (yP X q) q)).mem_iff.mp hr)
   lia
  rw[ML]
  exact VZ (zo rfl) (op2 (zo rfl) (zo rfl) (TZ _ _ this))⟩
 rw[Ux] at cm2
 have ec2:=wI (k:=2) (idx:=[4]) (τ:=S8 ns X q (some (.val (nts (zx X q)))) a5 a6 a7) (show wb (zr wo (za (fun τ=>((xI 1 [1] (wb (ze 4)) (gNm 0) (fun _=>.ok true) (eOp ixD (ze 1) (ze 0))) τ).bind fun ds=>.ok (.lst ds)) (za (ze 2) (za (eC (.int 99)) zj)))) (S8 ns X q (some (.val (nts (zx X q)))) a5 a6 a7)=.ok ((xD (wa (yP X q)) (wc (yP X q) q)).map yR) by rw[WI,hfe];rfl) cm2 (by
  have:=V2 X q
  rw[length_map];lia)
 simp only[ec2,Rs.bind_ok]
end
theorem main(ns:List Int)(h63:ns.length≤63):Jk [.scr ns]=.ok (.bl true):=by
 have st:zX 8 [D.scr ns]=[some (.val (.scr ns)),none,none,none,none,none,none,none]:=rfl
 obtain⟨X,hN,lX,oX⟩:=GT ns 0 5 h63 (by decide) (by decide) (by decide) (by decide)
 have hl:X.length≤5:=by lia
 have hX:∀x∈X,x.length≤10:=fun x hx=>(oX x hx).2.1
 have sX:∀x∈X,∀c∈x,c<128:=fun x hx c hc=>ns_lt c ((oX x hx).2.2 c hc)
 obtain⟨q,lq,oq,hq⟩:=qE_ok ns X 80 79 4 h63 (by decide) (by decide) (by decide) (by decide) (by decide) (by decide) oX (by lia) [none,none,none,none,none,none]
 have hq10:q.length≤10:=by lia
 have sq:∀c∈q,c<128:=fun c hc=>qs_lt c (oq c hc)
 unfold qE at hq
 have e1:zr xC (za (ze 0) (za (eC (.int 0)) (za (eC (.int 5)) zj))) [some (.val (.scr ns)),none,none,none,none,none,none,none]=.ok (.lst (X.map tx)):=uq (zo rfl) rfl rfl hN
 have mk1:ZC 3 "Sieve" yn (za (ze 1) zj) [some (.val (.scr ns)),some (.val (.lst (X.map tx))),some (.val (tx q)),none,none,none,none,none]=.nx (S8 ns X q none none none none):=Jj (MO (zo rfl)) (W1 X (by lia) fun x hx=>by have:=hX x hx;lia)
 have e4:=lf (ns:=ns) (X:=X) (q:=q) (a4:=none) (a5:=none) (a6:=none) (a7:=none) (fe:=ze 2) hl (by lia) sq rfl
 have t5:=c5 (ns:=ns) (a5:=none) (a6:=none) (a7:=none) hl hX hq10 sq
 have r1:=lf (ns:=ns) (X:=X) (q:=q) (a4:=some (.val (nts (zx X q)))) (a5:=none) (a6:=none) (a7:=none) (fe:=My (ze 2)) (q':=q.reverse) hl (by simp;lia) (fun c hc=>sq c (by simpa using hc)) (by rw[Lw,zo (d:=tx q) rfl,Rs.bind_ok,zb1 q (by lia)])
 rw[XY (List.reverse_perm q) X] at r1
 obtain⟨q2,p2,hq2⟩:=za9 (fe:=ze 2) (τ:=S8 ns X q (some (.val (nts (zx X q)))) none none none) q (by lia) rfl
 have r2:=lf (ns:=ns) (X:=X) (q:=q) (a4:=some (.val (nts (zx X q)))) (a5:=none) (a6:=none) (a7:=none) (q':=q2) hl (by rw[← p2.length_eq];lia) (fun c hc=>sq c (p2.mem_iff.mpr hc)) hq2
 rw[← XY p2 X] at r2
 have t6:WV (FD.tB (eOp neD (yY 3 "Sieve" "left" zQ (za (My (ze 2)) zj)) (ze 4))) (FD.tB (eOp neD (yY 3 "Sieve" "left" zQ (za (eOp zW (eSl (ze 2) (wn (eC (.int 1))) vQ) (eSl (ze 2) vQ (wn (eC (.int 1))))) zj)) (ze 4))) (S8 ns X q (some (.val (nts (zx X q)))) none none none)=.ok false:=
  or_tr (wU (op2 r1 (zo rfl) (YE _))) (wU (op2 r2 (zo rfl) (YE _)))
 have e0:("" : Str)=(⟨([]:List Nat).toArray⟩:Str):=by decide +kernel
 have r3:=lf (ns:=ns) (X:=X) (q:=q) (a4:=some (.val (nts (zx X q)))) (a5:=none) (a6:=none) (a7:=none) (fe:=eC (.str "")) (q':=[]) hl (by simp) (by simp) (by rw[e0];rfl)
 rw[G3] at r3
 have t7:FD.tB (eOp neD (yY 3 "Sieve" "left" zQ (za (eC (.str "")) zj)) (fun τ=>((uo (wM (za (yZ xj (za (ze 1) zj)) zj))) τ).bind fun ds=>.ok (.lst ds))) (S8 ns X q (some (.val (nts (zx X q)))) none none none)=.ok false:=
  wU (op2 r3 (UY (Xs (zo rfl) (by rw[uH,length_map])) (by lia)) (YE _))
 have es:("abc1B" : Str)=(⟨([97,98,99,49,66]:List Nat).toArray⟩:Str):=by decide +kernel
 have dl:=wH ns 95 (m:=5) (by decide)
 have dk:=wG ns 95 5 h63 (by decide) (by decide) (by decide)
 obtain⟨k,hk⟩:∃n:Nat,xV ns 95 5=(n:Int):=⟨(xV ns 95 5).toNat,by lia⟩
 rw[hk] at dk dl
 have lt5:k<([97,98,99,49,66]:List Nat).length:=by show k<5;lia
 obtain⟨c,hc,hc128⟩:∃c,([97,98,99,49,66]:List Nat)[k]?=some c∧c<128:=⟨_,getElem?_eq_getElem lt5,(show ∀c∈([97,98,99,49,66]:List Nat),c<128 by decide) _ (getElem_mem lt5)⟩
 have ql:eOp zW (ze 2) (eOp ixD (eC (.str "abc1B")) (zr zv (za (ze 0) (za (eC (.int 95)) (za (eC (.int 5)) zj))))) (S8 ns X q (some (.val (nts (zx X q)))) none none none)=.ok (tx (q++[c])):=by
  refine op2 (zo rfl) (op2 (b:=.int (k:Int)) rfl (uq (zo rfl) rfl rfl dk) (by rw[es];exact UK _ k c hc (by simp))) (zi6 q [c] (by lia) (by simp))
 have e5:=lf (ns:=ns) (X:=X) (q:=q) (a4:=some (.val (nts (zx X q)))) (a5:=none) (a6:=none) (a7:=none) (q':=q++[c]) hl (by simp;lia) (fun d hd=>by
  rcases mem_append.mp hd with z|z
  ·exact sq d z
  ·obtain rfl:d=c:=by simpa using z
   exact hc128) ql
 have t9:=c9 (ns:=ns) (X:=X) (q:=q) (a6:=none) (a7:=none) (r:=[c]) hl
 have e6:=e6_ok (ns:=ns) (X:=X) (q:=q) (a5:=some (.val (nts (zx X (q++[c]))))) (a6:=none) (a7:=none) hl hX hq10 sq
 have hf:=VL X q 99 (by lia) (fun x hx=>by have:=hX x hx;lia) sq (by lia)
 have sl:=V2 X q
 rw[take_of_length_le (by lia)] at hf
 have t11:FD.tB (eOp neD (ze 6) (zr wo (za (ze 1) (za (ze 2) (za (eC (.int 99)) zj))))) (S8 ns X q (some (.val (nts (zx X q)))) (some (.val (nts (zx X (q++[c]))))) (some (.val (.lst ((xD (wa X) (wc X q)).map yR)))) none)=.ok false:=
  wU (op2 (zo rfl) (uq (zo rfl) (zo rfl) rfl hf) (T1 _))
 generalize h6:(some (.val (.lst ((xD (wa X) (wc X q)).map yR))):Option Sl)=a6 at t11
 generalize h5:(some (.val (nts (zx X (q++[c])))):Option Sl)=a5 at t9 e6 t11
 have mk2:ZC 7 "Sieve" yn (za (vJ zj) zj) (S8 ns X q (some (.val (nts (zx X q)))) a5 a6 none)=.nx (S8 ns X q (some (.val (nts (zx X q)))) a5 a6 (some (.obj 0 "Sieve" (SV [])))):=Jj (MO T0) (W1 [] (by simp) (by simp))
 obtain⟨a0',had⟩:=adds X [] none (fun x hx=>by have:=hX x hx;lia) (by simp;lia)
 rw[nil_append] at had
 have hoc:XO 1 [7] 7 1 "Sieve" (wb (ze 1)) (gNm 0) (jg 1 "Sieve" "add" xn (za (ze 0) zj)) (S8 ns X q (some (.val (nts (zx X q)))) a5 a6 (some (.obj 0 "Sieve" (SV []))))=.ok (nts (List.range X.length),S8 ns X q (some (.val (nts (zx X q)))) a5 a6 (some (.obj 0 "Sieve" (SV X)))):=by
  unfold XO
  rw[GE (n:=0) (fs:=SV []) rfl,Rs.bind_ok]
  show(Rs.ok (X.map tx)).bind _=_
  rw[Rs.bind_ok]
  show(match uN (gNm 0) adE (X.map tx) [none,some (.obj 1 "Sieve" (SV []))] with
   | .ok (xs,τe)=>(match v7 τe 1 "Sieve" with
    | .ok (m,fs')=>if m=1∧xs.length≤sizeLine then Rs.ok (D.lst xs,(S8 ns X q (some (.val (nts (zx X q)))) a5 a6 (some (.obj 0 "Sieve" (SV [])))).set 7 (some (.obj 0 "Sieve" fs'))) else .no
    |_=>.no)
   |_=>.no)=_
  rw[had]
  simp only
  rw[GE (n:=1) (fs:=SV X) rfl]
  simp only
  rw[if_pos (by first|exact⟨trivial,by rw[zL];simp;lia⟩ | (rw[zL];simp;lia))]
  rw[length_nil,← range_eq_range'];rfl
 have t12:oB (oOp neD (XO 1 [7] 7 1 "Sieve" (wb (ze 1)) (gNm 0) (jg 1 "Sieve" "add" xn (za (ze 0) zj))) (fun τ=>((uo (wM (za (yZ xj (za (ze 1) zj)) zj))) τ).bind fun ds=>.ok (.lst ds))) (S8 ns X q (some (.val (nts (zx X q)))) a5 a6 (some (.obj 0 "Sieve" (SV []))))=.ok (false,S8 ns X q (some (.val (nts (zx X q)))) a5 a6 (some (.obj 0 "Sieve" (SV X)))):=
  oB_ok (ze3 hoc (UY (Xs (zo rfl) (by rw[uH,length_map])) (by lia)) (YE _))
 have l2:yY 7 "Sieve" "left" zQ (za (ze 2) zj) (S8 ns X q (some (.val (nts (zx X q)))) a5 a6 (some (.obj 0 "Sieve" (SV X))))=.ok (nts (zx X q)):=jX (o:=SV X) (GL rfl) rfl (MO (zo rfl)) (Jo X q (by lia) (by lia) sq)
 have s7:yY 7 "Sieve" "signs" yr zj (S8 ns X q (some (.val (nts (zx X q)))) a5 a6 (some (.obj 0 "Sieve" (SV X))))=.ok (vI (jn [] X)):=jX (o:=SV X) (GL rfl) rfl rfl (W2 X hl hX)
 have s3:yY 3 "Sieve" "signs" yr zj (S8 ns X q (some (.val (nts (zx X q)))) a5 a6 (some (.obj 0 "Sieve" (SV X))))=.ok (vI (jn [] X)):=jX (o:=SV X) (GL rfl) rfl rfl (W2 X hl hX)
 have last:MC (eOp eqD (yY 7 "Sieve" "left" zQ (za (ze 2) zj)) (ze 4)) (eOp eqD (yY 7 "Sieve" "signs" yr zj) (yY 3 "Sieve" "signs" yr zj)) (S8 ns X q (some (.val (nts (zx X q)))) a5 a6 (some (.obj 0 "Sieve" (SV X))))=.ok (.bl true):=by
  rw[JH,op2 l2 (zo rfl) (ze5 _),Rs.bind_ok,vj,Rs.bind_ok,if_pos rfl,op2 s7 s3 (Mc X sX)]
 unfold Jk L6
 rw[yc,st,x6 (Zh e1)]
 simp only[set_cons_succ,set_cons_zero]
 rw[x6 (Zh hq)]
 simp only[set_cons_succ,set_cons_zero]
 rw[x6 mk1,x6 (Zh e4)]
 simp only[set_cons_succ,set_cons_zero]
 rw[x6 (Mh t5),x6 (Mh t6),x6 (Mh t7),x6 (Zh e5)]
 simp only[set_cons_succ,set_cons_zero]
 rw[h5,x6 (Mh t9),x6 (Zh e6)]
 simp only[set_cons_succ,set_cons_zero]
 rw[h6,x6 (Mh t11),x6 mk2,x6 (ifO_n t12),Q9 last]
 rfl
set_option maxHeartbeats 4000000
noncomputable def top(i:Nat):Stmt:=PySem.Challenge.pw_fewfind_k81_whole_sieves.main.body.getD i (.Pass ⟨0,0,0,0⟩)
section
variable{P:Program}{w:World}{K:Frag}{mg:Str→Option Value}{base:Heap}
noncomputable abbrev xP:Stmt:=top 38
theorem Wk:zJ ["_law_script", "_law_k"] ["_law_script", "_law_k"] (zh xP):=⟨rfl,rfl,rfl,by decide +kernel,rfl,by decide +kernel,by decide +kernel⟩
theorem Wy{f:Addr}{fd:FuncData}(A_:zY K mg "_law_cell" xP f fd)(z_len:mg "len" = none):DefOk P w K mg base "_law_cell" 1 2 ["_law_script", "_law_k"] wg:=by
 refine DefOk.mk (k:=0) A_ Wk rfl (fun _ _ _ _ _ _ us hl=>by obtain⟨_,_,rfl⟩:=lnz2 hl;rfl) (fun cdv A outer s H E hr=>?_) fun _ _ _ h=>h
 exact(zp (xf (z0 (wR hr.units) (zb (pv 0)) (vq zk) (yA _)) (zq (zM (zC wF zm (zb (pv 1))))) yg) (zq (zM (zC zN (z9 yC (zb (pv 0)) (zC u3 (zb (pv 1)) (ya xX rfl z_len PySem.boot_len (zc (zb (pv 0)) zk)))) (zC wF zm (zC jT (zb (pv 1)) (ya xX rfl z_len PySem.boot_len (zc (zb (pv 0)) zk))))))))
noncomputable abbrev xx:Stmt:=top 39
theorem sc__law_drawn:zJ ["_law_script", "_law_k", "_law_many", "_law_cell_here"] ["_law_script", "_law_k", "_law_many"] (zh xx):=⟨rfl,rfl,rfl,by decide +kernel,rfl,by decide +kernel,by decide +kernel⟩
theorem Xm{f:Addr}{fd:FuncData}(A_:zY K mg "_law_drawn" xx f fd)(h__law_cell:DefOk P w K mg base "_law_cell" 1 2 ["_law_script", "_law_k"] wg):DefOk P w K mg base "_law_drawn" 2 3 ["_law_script", "_law_k", "_law_many"] zv:=by
 refine DefOk.mk (k:=1) A_ sc__law_drawn rfl (fun _ _ _ _ _ _ us hl=>by obtain⟨_,_,_,rfl⟩:=lnz3 hl;rfl) (fun cdv A outer s H E hr=>?_) fun _ _ _ h=>h
 exact(zp (yk (i:=3) sc__law_drawn.nd rfl (Or.inl rfl) (zC u3 (zC zN (zC wF (zC u3 (zG h__law_cell (hr.mono (by decide)) (zc (zb (pv 0)) (zc (zb (pv 1)) zk)) (zg (zg zu))) zm) zm) (zC wF zm (zC zN (zb (pv 1)) zm))) zm)) (zp (yk (i:=3) sc__law_drawn.nd rfl (Or.inl rfl) (zC u3 (zC zN (zC wF (zb (pv 3)) (zb (pv 3))) (zC jT (zb (pv 3)) zm)) zm)) (zq (zM (zC u3 (zC jT (zC u3 (zC zN (zC wF (zb (pv 3)) (zb (pv 3))) (zC jT (zb (pv 3)) zm)) zm) zm) (zb (pv 2)))))))
noncomputable abbrev xN:Stmt:=top 40
theorem sc__law_name:zJ ["_law_script", "_law_at", "_law_found", "_law_k"] ["_law_script", "_law_at"] (zh xN):=⟨rfl,rfl,rfl,by decide +kernel,rfl,by decide +kernel,by decide +kernel⟩
theorem Ww{f:Addr}{fd:FuncData}(A_:zY K mg "_law_name" xN f fd)(h__law_drawn:DefOk P w K mg base "_law_drawn" 2 3 ["_law_script", "_law_k", "_law_many"] zv)(z_range:mg "range" = none):DefOk P w K mg base "_law_name" 3 2 ["_law_script", "_law_at"] xl:=by
 refine DefOk.mk (k:=2) A_ sc__law_name rfl (fun _ _ _ _ _ _ us hl=>by obtain⟨_,_,rfl⟩:=lnz2 hl;rfl) (fun cdv A outer s H E hr=>?_) fun _ _ _ h=>h
 exact(zp (yk (i:=2) sc__law_name.nd rfl (Or.inl rfl) wY) (zp (vn PassesOwn.never rfl (wy rfl z_range (zc (zC zN zm (zG h__law_drawn (hr.mono (by decide)) (zc (zb (pv 0)) (zc (zb (pv 1)) (zc zm zk))) (zg (zg (zg zu))))) zk)) (yM sc__law_name.nd rfl (Or.inl rfl)) (zq (yk (i:=2) sc__law_name.nd rfl (Or.inl rfl) (zC zN (zb (pv 2)) (z9 yC wY (zG h__law_drawn (hr.mono (by decide)) (zc (zb (pv 0)) (zc (zC zN (zC zN (zb (pv 1)) zm) (zb (pv 3))) (zc zm zk))) (zg (zg (zg zu))))))))) (zq (zM (zb (pv 2))))))
noncomputable abbrev xw:Stmt:=top 42
theorem sc__law_names:zJ ["_law_script", "_law_at", "_law_most", "_law_found"] ["_law_script", "_law_at", "_law_most"] (zh xw):=⟨rfl,rfl,rfl,by decide +kernel,rfl,by decide +kernel,by decide +kernel⟩
theorem Xl{f:Addr}{fd:FuncData}(A_:zY K mg "_law_names" xw f fd)(h__law_drawn:DefOk P w K mg base "_law_drawn" 2 3 ["_law_script", "_law_k", "_law_many"] zv)(h__law_name:DefOk P w K mg base "_law_name" 3 2 ["_law_script", "_law_at"] xl)(z_len:mg "len" = none)(z_range:mg "range" = none):DefOk P w K mg base "_law_names" 4 3 ["_law_script", "_law_at", "_law_most"] xC:=by
 refine DefOk.mk (k:=3) A_ sc__law_names rfl (fun _ _ _ _ _ _ us hl=>by obtain⟨_,_,_,rfl⟩:=lnz3 hl;rfl) (fun cdv A outer s H E hr=>?_) fun _ _ _ h=>h
 exact(zp (Ug (i:=3) sc__law_names.nd rfl rfl rfl (tn:=["_law_k"]) (fr:=["_law_script", "_law_at"]) (idx:=[0,1]) rfl rfl ⟨rfl,rfl,⟨rfl,rfl,trivial⟩⟩ (vd 0) (PDI.h (wy rfl z_range (zc (zG h__law_drawn (hr.mono (by decide)) (zc (zb (pv 0)) (zc (zb (pv 1)) (zc (zC zN (zb (pv 2)) zm) zk))) (zg (zg (zg zu)))) zk))) (fun s H C fp=>(yM (show List.Nodup (["_law_k", "_law_script", "_law_at"]:List Str) by decide +kernel) rfl (Or.inl rfl))) (fun s H C fp=>vP) (fun s H C fp=>(zG h__law_name (hr.mono (by decide)) (zc (zb (pv 1)) (zc (zC zN (zC zN (zb (pv 2)) zm) (zC wF zm (zb (pv 0)))) zk)) (zg (zg zu))))) (zp (xf (jR (uV (z0 Uj (Yv (pv 3) rfl z_len) zm (yA _)) (vO (z0 (wR hr.units) (zG h__law_drawn (hr.mono (by decide)) (zc (zb (pv 0)) (zc (zC zN (zb (pv 1)) zm) (zc zm zk))) (zg (zg (zg zu)))) zm (yA _))))) (zq (TD (pv 3) zm (TL (pv 3) (vp zm)))) yg) (zq (jS (pv 3)))))
noncomputable abbrev xO:Stmt:=top 41
theorem Wj:zJ ["_law_sign"] ["_law_sign"] (zh xO):=⟨rfl,rfl,rfl,by decide +kernel,rfl,by decide +kernel,by decide +kernel⟩
theorem Wx{f:Addr}{fd:FuncData}(A_:zY K mg "_law_mark" xO f fd):DefOk P w K mg base "_law_mark" 1 1 ["_law_sign"] xm:=by
 refine DefOk.mk (k:=0) A_ Wj rfl (fun _ _ _ _ _ _ us hl=>by obtain⟨_,rfl⟩:=lnz1 hl;rfl) (fun cdv A outer s H E hr=>?_) fun _ _ _ h=>h
 exact(zq (zM (v5 (Zo (wD hr)) (zb (pv 0)) wY (by with_unfolding_all rfl))))
noncomputable abbrev xv:Stmt:=top 43
theorem sc__law_query:zJ ["_law_script", "_law_at", "_law_name_here", "_law_most", "_law_found", "_law_place", "_law_k", "_law_sign"] ["_law_script", "_law_at", "_law_name_here", "_law_most"] (zh xv):=⟨rfl,rfl,rfl,by decide +kernel,rfl,by decide +kernel,by decide +kernel⟩
theorem Xk{f:Addr}{fd:FuncData}(A_:zY K mg "_law_query" xv f fd)(h__law_drawn:DefOk P w K mg base "_law_drawn" 2 3 ["_law_script", "_law_k", "_law_many"] zv)(h__law_mark:DefOk P w K mg base "_law_mark" 1 1 ["_law_sign"] xm)(z_range:mg "range" = none)(z_len:mg "len" = none)(z_min:mg "min" = none):DefOk P w K mg base "_law_query" 3 4 ["_law_script", "_law_at", "_law_name_here", "_law_most"] xB:=by
 refine DefOk.mk (k:=2) A_ sc__law_query rfl (fun _ _ _ _ _ _ us hl=>by obtain⟨_,_,_,_,rfl⟩:=lnz4 hl;rfl) (fun cdv A outer s H E hr=>?_) fun _ _ _ h=>h
 exact(zp (yk (i:=4) sc__law_query.nd rfl (Or.inl rfl) wY) (zp (yk (i:=5) sc__law_query.nd rfl (Or.inl rfl) zm) (zp (vn PassesOwn.never rfl (wy rfl z_range (zc (zG h__law_drawn (hr.mono (by decide)) (zc (zb (pv 0)) (zc (zb (pv 1)) (zc (zC zN (zb (pv 3)) zm) zk))) (zg (zg (zg zu)))) zk)) (yM sc__law_query.nd rfl (Or.inl rfl)) (zp (yk (i:=5) sc__law_query.nd rfl (Or.inl rfl) (ya (WN rfl) rfl z_min boot_min (zc (zC uZ (ya xX rfl z_len PySem.boot_len (zc (zb (pv 2)) zk)) zm) (zc (zC zN (zb (pv 5)) (zG h__law_drawn (hr.mono (by decide)) (zc (zb (pv 0)) (zc (zC zN (zC zN (zb (pv 1)) zm) (zC wF zm (zb (pv 6)))) (zc zm zk))) (zg (zg (zg zu))))) zk)))) (zp (yk (i:=7) sc__law_query.nd rfl (Or.inl rfl) (XM (Gw (Wu (zb (pv 2)) (uC (zb (pv 5))) (uC (zC zN (zb (pv 5)) zm))) (Z4 wY)))) (zp (yk (i:=5) sc__law_query.nd rfl (Or.inl rfl) (zC zN (zb (pv 5)) zm)) (zp (xf (z0 (wR hr.units) (zG h__law_drawn (hr.mono (by decide)) (zc (zb (pv 0)) (zc (zC zN (zC zN (zb (pv 1)) zm) (zC wF zm (zb (pv 6)))) (zc zm zk))) (zg (zg (zg zu)))) zm (yA _)) (zq (yk (i:=7) sc__law_query.nd rfl (Or.inl rfl) (z9 yC wY (zG h__law_drawn (hr.mono (by decide)) (zc (zb (pv 0)) (zc (zC zN (zC zN (zb (pv 1)) zm) (zC wF zm (zb (pv 6)))) (zc zm zk))) (zg (zg (zg zu))))))) yg) (zq (xf (TC (uW (zG h__law_mark (hr.mono (by decide)) (zc (zb (pv 7)) zk) (zg zu)))) (zq (yk (i:=4) sc__law_query.nd rfl (Or.inl rfl) (zC zN (zb (pv 4)) (zb (pv 7))))) yg))))))) (zq (zM (zb (pv 4)))))))
noncomputable abbrev xa:Stmt:=top 9
theorem sc_sign_counts:zJ ["text", "counts", "sign"] ["text"] (zh xa):=⟨rfl,rfl,rfl,by decide +kernel,rfl,by decide +kernel,by decide +kernel⟩
theorem YA{f:Addr}{fd:FuncData}(A_:zY K mg "sign_counts" xa f fd):DefOk P w K mg base "sign_counts" 1 1 ["text"] yd:=by
 refine DefOk.mk (k:=0) A_ sc_sign_counts rfl (fun _ _ _ _ _ _ us hl=>by obtain⟨_,rfl⟩:=lnz1 hl;rfl) (fun cdv A outer s H E hr=>?_) fun _ _ _ h=>h
 exact(Go (i:=1) sc_sign_counts.nd rfl (Or.inl rfl) (U4 (r:=2) PassesOwn.never rfl (wE (zb (pv 0))) sc_sign_counts.nd rfl (Or.inl rfl) (by decide) (uU (U3 (X6 hr) (pv 1) (pv 1) (zb (pv 2)) (zb (pv 2)) ⟨rfl,rfl,rfl,rfl⟩))) (pv 1))
noncomputable abbrev yQ:Stmt:=Z9 (top 12) 0
theorem jN:zJ ["self", "names"] ["self", "names"] (zh yQ):=⟨rfl,rfl,rfl,by decide +kernel,rfl,by decide +kernel,by decide +kernel⟩
theorem jU{C_Sieve:Addr}(A_Sieve:ClsAt K mg "Sieve" C_Sieve)(n_Sieve_counts:NoAttr K C_Sieve "counts")(h_sign_counts:DefOk P w K mg base "sign_counts" 1 1 ["text"] yd){f:Addr}{fd:FuncData}(M_:Mk K C_Sieve f)(D_:Fun K "__init__" "Sieve.__init__" yQ f fd):ClsM P w K mg base "Sieve" 2 1 ["self", "names"] yn:=by
 refine ClsM.mk (k:=1) A_Sieve M_ D_ jN rfl (fun _ _ _ _ _ _ us hl=>by obtain⟨_,_,rfl⟩:=lnz2 hl;rfl) (fun cdv A outer s H E hr=>?_)
 exact(zq (TH (pv 0) A_Sieve.ns A_Sieve.cls n_Sieve_counts (wf (tn:=["name"]) (fr:=[]) (idx:=[]) rfl rfl trivial (vd 0) (PDI.h (wE (zb (pv 1)))) (fun s H C fp=>(yM (show List.Nodup (["name"]:List Str) by decide +kernel) rfl (Or.inl rfl))) (fun s H C fp=>vP) (fun s H C fp=>(zG h_sign_counts (hr.mono (by decide)) (zc (zb (pv 0)) zk) (zg zu)))) (by decide +kernel)))
noncomputable abbrev ww:Stmt:=top 33
theorem W5:zJ ["names", "rows"] ["names", "rows"] (zh ww):=⟨rfl,rfl,rfl,by decide +kernel,rfl,by decide +kernel,by decide +kernel⟩
theorem Vi{f c:Addr}(A_:UJ K mg "in_order" ww f c 160)(bm:BM mg base)(z_len:mg "len" = none)(z_sorted:mg "sorted" = none):DefOk P w K mg base "in_order" 4 2 ["names", "rows"] xR:=by
 refine DefOk.mkL (k:=3) A_ W5 rfl (fun _ _ _ _ _ _ us hl=>by obtain⟨_,_,rfl⟩:=lnz2 hl;rfl) (fun A outer s H E hr=>?_)
 exact(zq (zM (J9 (P:=160) (p := "row") (fr:=["names"]) (idx:=[0]) rfl z_sorted boot_sorted (zb (pv 1)) (hr.mono (by decide)) (TabsU.of (by decide)) bm rfl A_.tab (.head _) rfl ⟨rfl,rfl,trivial⟩ rfl rfl rfl (fun _ _ _ _ _=>rfl) (fun s H f cd=>(vo (zc (vp (z9 yC (zb (pv 0)) zm)) (zc (ya xX rfl z_len PySem.boot_len (zc (z9 yC (zb (pv 1)) (z9 yC (zb (pv 0)) zm)) zk)) (zc (z9 yC (zb (pv 0)) zm) zk))))))))
noncomputable abbrev xu:Stmt:=top 34
theorem Xf:zJ ["names", "rows", "many"] ["names", "rows", "many"] (zh xu):=⟨rfl,rfl,rfl,by decide +kernel,rfl,by decide +kernel,by decide +kernel⟩
theorem Xj{f:Addr}{fd:FuncData}(A_:zY K mg "first_rows" xu f fd)(h_in_order:DefOk P w K mg base "in_order" 4 2 ["names", "rows"] xR)(z_max:mg "max" = none):DefOk P w K mg base "first_rows" 5 3 ["names", "rows", "many"] y4:=by
 refine DefOk.mk (k:=4) A_ Xf rfl (fun _ _ _ _ _ _ us hl=>by obtain⟨_,_,_,rfl⟩:=lnz3 hl;rfl) (fun cdv A outer s H E hr=>?_) fun _ _ _ h=>h
 exact(zq (zM (Wu (zG h_in_order (hr.mono (by decide)) (zc (zb (pv 0)) (zc (zb (pv 1)) zk)) (zg (zg zu))) Ys (uC (ya (LA rfl) rfl z_max boot_max (zc (zb (pv 2)) (zc zm zk)))))))
noncomputable abbrev ym:Stmt:=top 22
theorem sc_beginning_points:zJ ["name", "place", "ahead"] ["name", "place"] (zh ym):=⟨rfl,rfl,rfl,by decide +kernel,rfl,by decide +kernel,by decide +kernel⟩
theorem jd{f:Addr}{fd:FuncData}(A_:zY K mg "beginning_points" ym f fd){t_FIGURES:Tok}(g_FIGURES:mg "FIGURES" = some (.str "0123456789" t_FIGURES)){t_SMALL:Tok}(g_SMALL:mg "SMALL" = some (.str "abcdefghijklmnopqrstuvwxyz" t_SMALL)){t_GREAT:Tok}(g_GREAT:mg "GREAT" = some (.str "ABCDEFGHIJKLMNOPQRSTUVWXYZ" t_GREAT)){t_AT_GREAT:Tok}(g_AT_GREAT:mg "AT_GREAT" = some (.int 5 t_AT_GREAT)){t_MARKS:Tok}(g_MARKS:mg "MARKS" = some (.str "_-./" t_MARKS)){t_BEHIND_MARK:Tok}(g_BEHIND_MARK:mg "BEHIND_MARK" = some (.int 6 t_BEHIND_MARK)){t_AT_BEGINNING:Tok}(g_AT_BEGINNING:mg "AT_BEGINNING" = some (.int 8 t_AT_BEGINNING)):DefOk P w K mg base "beginning_points" 1 2 ["name", "place"] yB:=by
 refine DefOk.mk (k:=0) A_ sc_beginning_points rfl (fun _ _ _ _ _ _ us hl=>by obtain⟨_,_,rfl⟩:=lnz2 hl;rfl) (fun cdv A outer s H E hr=>?_) fun _ _ _ h=>h
 exact(zp (xf (z0 (wR hr.units) (zb (pv 1)) zm (yA _)) (zq (zM (vt rfl g_AT_BEGINNING))) yg) (zp (yk (i:=2) sc_beginning_points.nd rfl (Or.inl rfl) (z9 yC (zb (pv 0)) (zC uZ (zb (pv 1)) zm))) (zp (xf (z0 (Zo (wD hr)) (zb (pv 2)) (v4 rfl g_MARKS) (by with_unfolding_all rfl)) (zq (zM (vt rfl g_BEHIND_MARK))) yg) (zp (xf (jR (uV (z0 (Zo (wD hr)) (z9 yC (zb (pv 0)) (zb (pv 1))) (v4 rfl g_GREAT) (by with_unfolding_all rfl)) (vO (jR (Ue (z0 (Zo (wD hr)) (zb (pv 2)) (v4 rfl g_SMALL) (by with_unfolding_all rfl)) (Wr (z0 (Zo (wD hr)) (zb (pv 2)) (v4 rfl g_FIGURES) (by with_unfolding_all rfl)))))))) (zq (zM (vt rfl g_AT_GREAT))) yg) (zq (zM zm))))))
noncomputable abbrev xq:Stmt:=top 23
theorem sc_own_points:zJ ["sign", "name", "place", "same"] ["sign", "name", "place"] (zh xq):=⟨rfl,rfl,rfl,by decide +kernel,rfl,by decide +kernel,by decide +kernel⟩
theorem Xh{f:Addr}{fd:FuncData}(A_:zY K mg "own_points" xq f fd)(h_beginning_points:DefOk P w K mg base "beginning_points" 1 2 ["name", "place"] yB){t_EACH_PLACE:Tok}(g_EACH_PLACE:mg "EACH_PLACE" = some (.int 10 t_EACH_PLACE)){t_SAME_SIGN:Tok}(g_SAME_SIGN:mg "SAME_SIGN" = some (.int 1 t_SAME_SIGN)):DefOk P w K mg base "own_points" 2 3 ["sign", "name", "place"] yx:=by
 refine DefOk.mk (k:=1) A_ sc_own_points rfl (fun _ _ _ _ _ _ us hl=>by obtain⟨_,_,_,rfl⟩:=lnz3 hl;rfl) (fun cdv A outer s H E hr=>?_) fun _ _ _ h=>h
 exact(zp (yk (i:=3) sc_own_points.nd rfl (Or.inl rfl) (zd1 (z0 (wR hr.units) (z9 yC (zb (pv 1)) (zb (pv 2))) (zb (pv 0)) (yA _)) (vt rfl g_SAME_SIGN) zm)) (zq (zM (zC zN (zC zN (vt rfl g_EACH_PLACE) (zG h_beginning_points (hr.mono (by decide)) (zc (zb (pv 1)) (zc (zb (pv 2)) zk)) (zg (zg zu)))) (zb (pv 3))))))
noncomputable abbrev vW:Stmt:=top 5
theorem Q3:zJ ["sign", "other"] ["sign", "other"] (zh vW):=⟨rfl,rfl,rfl,by decide +kernel,rfl,by decide +kernel,by decide +kernel⟩
theorem GG{f:Addr}{fd:FuncData}(A_:zY K mg "meets" vW f fd){t_SMALL:Tok}(g_SMALL:mg "SMALL" = some (.str "abcdefghijklmnopqrstuvwxyz" t_SMALL)):DefOk P w K mg base "meets" 1 2 ["sign", "other"] xH:=by
 refine DefOk.mk (k:=0) A_ Q3 rfl (fun _ _ _ _ _ _ us hl=>by obtain⟨_,_,rfl⟩:=lnz2 hl;rfl) (fun cdv A outer s H E hr=>?_) fun _ _ _ h=>h
 exact(zq (zM (Gw (v5 (wR hr.units) (zb (pv 0)) (zb (pv 1)) (yA _)) (Z4 (Jd (v5 (Zo (wD hr)) (zb (pv 0)) (v4 rfl g_SMALL) (by with_unfolding_all rfl)) (Z4 (v5 (wR hr.units) (XJ (zb (pv 0))) (zb (pv 1)) (yA _))))))))
noncomputable abbrev yu:Stmt:=top 27
theorem jp:zJ ["sign", "name"] ["sign", "name"] (zh yu):=⟨rfl,rfl,rfl,by decide +kernel,rfl,by decide +kernel,by decide +kernel⟩
theorem jv{f:Addr}{fd:FuncData}(A_:zY K mg "last_sign_tails" yu f fd)(h_meets:DefOk P w K mg base "meets" 1 2 ["sign", "other"] xH)(h_own_points:DefOk P w K mg base "own_points" 2 3 ["sign", "name", "place"] yx)(z_len:mg "len" = none)(z_range:mg "range" = none):DefOk P w K mg base "last_sign_tails" 3 2 ["sign", "name"] yi:=by
 refine DefOk.mk (k:=2) A_ jp rfl (fun _ _ _ _ _ _ us hl=>by obtain⟨_,_,rfl⟩:=lnz2 hl;rfl) (fun cdv A outer s H E hr=>?_) fun _ _ _ h=>h
 exact(zq (zM (vF (wf (tn:=["place"]) (fr:=["sign", "name"]) (idx:=[0,1]) rfl rfl ⟨rfl,rfl,⟨rfl,rfl,trivial⟩⟩ (vd 0) (PDI.h (wy rfl z_range (zc (ya xX rfl z_len PySem.boot_len (zc (zb (pv 1)) zk)) zk))) (fun s H C fp=>(yM (show List.Nodup (["place", "sign", "name"]:List Str) by decide +kernel) rfl (Or.inl rfl))) (fun s H C fp=>(uB (uW (zG h_meets (hr.mono (by decide)) (zc (zb (pv 1)) (zc (z9 yC (zb (pv 2)) (zb (pv 0))) zk)) (zg (zg zu)))))) (fun s H C fp=>(vo (zc (zG h_own_points (hr.mono (by decide)) (zc (zb (pv 1)) (zc (zb (pv 2)) (zc (zb (pv 0)) zk))) (zg (zg (zg zu)))) (zc (vq (zc (zb (pv 0)) zk)) zk))))))))
noncomputable abbrev yJ:Stmt:=top 26
theorem sc_first_of_most:zJ ["tails", "chosen", "tail"] ["tails"] (zh yJ):=⟨rfl,rfl,rfl,by decide +kernel,rfl,by decide +kernel,by decide +kernel⟩
theorem Zp{f:Addr}{fd:FuncData}(A_:zY K mg "first_of_most" yJ f fd):DefOk P w K mg base "first_of_most" 1 1 ["tails"] zR:=by
 refine DefOk.mk (k:=0) A_ sc_first_of_most rfl (fun _ _ _ _ _ _ us hl=>by obtain⟨_,rfl⟩:=lnz1 hl;rfl) (fun cdv A outer s H E hr=>?_) fun _ _ _ h=>h
 exact(zp (yk (i:=1) sc_first_of_most.nd rfl (Or.inl rfl) Z5) (zp (vn PassesOwn.never rfl (wE (zb (pv 0))) (yM sc_first_of_most.nd rfl (Or.inl rfl)) (zq (xf (jR (Ue (z0 zd3 (zb (pv 1)) Z5 (yA _)) (Wr (z0 Uj (z9 yC (zb (pv 2)) zm) (z9 yC (zb (pv 1)) zm) (yA _))))) (zq (yk (i:=1) sc_first_of_most.nd rfl (Or.inl rfl) (zb (pv 2)))) yg))) (zq (zM (zb (pv 1))))))
noncomputable abbrev xb:Stmt:=top 25
theorem sc_link_points:zJ ["ahead", "place", "between"] ["ahead", "place"] (zh xb):=⟨rfl,rfl,rfl,by decide +kernel,rfl,by decide +kernel,by decide +kernel⟩
theorem YB{f:Addr}{fd:FuncData}(A_:zY K mg "link_points" xb f fd){t_MOST_BETWEEN:Tok}(g_MOST_BETWEEN:mg "MOST_BETWEEN" = some (.int 5 t_MOST_BETWEEN)){t_BESIDE:Tok}(g_BESIDE:mg "BESIDE" = some (.int 7 t_BESIDE))(z_min:mg "min" = none):DefOk P w K mg base "link_points" 1 2 ["ahead", "place"] xh:=by
 refine DefOk.mk (k:=0) A_ sc_link_points rfl (fun _ _ _ _ _ _ us hl=>by obtain⟨_,_,rfl⟩:=lnz2 hl;rfl) (fun cdv A outer s H E hr=>?_) fun _ _ _ h=>h
 exact(zp (yk (i:=2) sc_link_points.nd rfl (Or.inl rfl) (zC uZ (zC uZ (zb (pv 1)) (zb (pv 0))) zm)) (zp (xf (z0 (wR hr.units) (zb (pv 2)) zm (yA _)) (zq (zM (vt rfl g_BESIDE))) yg) (zq (zM (vp (ya (WN rfl) rfl z_min boot_min (zc (zb (pv 2)) (zc (vt rfl g_MOST_BETWEEN) zk))))))))
noncomputable abbrev yU:Stmt:=top 28
theorem ZU:zJ ["place", "tails"] ["place", "tails"] (zh yU):=⟨rfl,rfl,rfl,by decide +kernel,rfl,by decide +kernel,by decide +kernel⟩
theorem ZX{f:Addr}{fd:FuncData}(A_:zY K mg "linked_tails" yU f fd)(h_link_points:DefOk P w K mg base "link_points" 1 2 ["ahead", "place"] xh):DefOk P w K mg base "linked_tails" 2 2 ["place", "tails"] yE:=by
 refine DefOk.mk (k:=1) A_ ZU rfl (fun _ _ _ _ _ _ us hl=>by obtain⟨_,_,rfl⟩:=lnz2 hl;rfl) (fun cdv A outer s H E hr=>?_) fun _ _ _ h=>h
 exact(zq (zM (vF (wf (tn:=["tail"]) (fr:=["place"]) (idx:=[0]) rfl rfl ⟨rfl,rfl,trivial⟩ (vd 0) (PDI.h (wE (zb (pv 1)))) (fun s H C fp=>(yM (show List.Nodup (["tail", "place"]:List Str) by decide +kernel) rfl (Or.inl rfl))) (fun s H C fp=>(uB (z0 Uj (z9 yC (z9 yC (zb (pv 0)) zm) zm) (zb (pv 1)) (yA _)))) (fun s H C fp=>(vo (zc (zC zN (z9 yC (zb (pv 0)) zm) (zG h_link_points (hr.mono (by decide)) (zc (zb (pv 1)) (zc (z9 yC (z9 yC (zb (pv 0)) zm) zm) zk)) (zg (zg zu)))) (zc (z9 yC (zb (pv 0)) zm) zk))))))))
noncomputable abbrev yT:Stmt:=top 29
theorem sc_longer_tails:zJ ["sign", "name", "tails", "longer", "place", "chosen"] ["sign", "name", "tails"] (zh yT):=⟨rfl,rfl,rfl,by decide +kernel,rfl,by decide +kernel,by decide +kernel⟩
theorem ZW{f:Addr}{fd:FuncData}(A_:zY K mg "longer_tails" yT f fd)(h_meets:DefOk P w K mg base "meets" 1 2 ["sign", "other"] xH)(h_own_points:DefOk P w K mg base "own_points" 2 3 ["sign", "name", "place"] yx)(h_linked_tails:DefOk P w K mg base "linked_tails" 2 2 ["place", "tails"] yE)(h_first_of_most:DefOk P w K mg base "first_of_most" 1 1 ["tails"] zR)(z_len:mg "len" = none)(z_range:mg "range" = none):DefOk P w K mg base "longer_tails" 3 3 ["sign", "name", "tails"] yW:=by
 refine DefOk.mk (k:=2) A_ sc_longer_tails rfl (fun _ _ _ _ _ _ us hl=>by obtain⟨_,_,_,rfl⟩:=lnz3 hl;rfl) (fun cdv A outer s H E hr=>?_) fun _ _ _ h=>h
 exact(zp (Yr (i:=3) sc_longer_tails.nd rfl (Or.inl rfl) (Wt zk)) (zp (vn PassesOwn.never rfl (wy rfl z_range (zc (ya xX rfl z_len PySem.boot_len (zc (zb (pv 1)) zk)) zk)) (yM sc_longer_tails.nd rfl (Or.inl rfl)) (zq (xf (uW (zG h_meets (hr.mono (by decide)) (zc (zb (pv 0)) (zc (z9 yC (zb (pv 1)) (zb (pv 4))) zk)) (zg (zg zu)))) (zp (yk (i:=5) sc_longer_tails.nd rfl (Or.inl rfl) (zG h_first_of_most (hr.mono (by decide)) (zc (zG h_linked_tails (hr.mono (by decide)) (zc (zb (pv 4)) (zc (zb (pv 2)) zk)) (zg (zg zu))) zk) (zg zu))) (zq (xf (z0 XN (zb (pv 5)) Z5 (yA _)) (zq (Ws (pv 3) (vo (zc (zC zN (zG h_own_points (hr.mono (by decide)) (zc (zb (pv 0)) (zc (zb (pv 1)) (zc (zb (pv 4)) zk))) (zg (zg (zg zu)))) (z9 yC (zb (pv 5)) zm)) (zc (zC zN (vq (zc (zb (pv 4)) zk)) (z9 yC (zb (pv 5)) zm)) zk))))) yg))) yg))) (zq (jS (pv 3)))))
noncomputable abbrev xc:Stmt:=top 24
theorem Yk:zJ ["place"] ["place"] (zh xc):=⟨rfl,rfl,rfl,by decide +kernel,rfl,by decide +kernel,by decide +kernel⟩
theorem YC{f:Addr}{fd:FuncData}(A_:zY K mg "lead_points" xc f fd){t_MOST_AHEAD:Tok}(g_MOST_AHEAD:mg "MOST_AHEAD" = some (.int 3 t_MOST_AHEAD))(z_min:mg "min" = none):DefOk P w K mg base "lead_points" 1 1 ["place"] yO:=by
 refine DefOk.mk (k:=0) A_ Yk rfl (fun _ _ _ _ _ _ us hl=>by obtain⟨_,rfl⟩:=lnz1 hl;rfl) (fun cdv A outer s H E hr=>?_) fun _ _ _ h=>h
 exact(zq (zM (vp (ya (WN rfl) rfl z_min boot_min (zc (zb (pv 0)) (zc (vt rfl g_MOST_AHEAD) zk))))))
noncomputable abbrev jr:Stmt:=top 30
theorem sc_best:zJ ["query", "name", "tails", "number"] ["query", "name"] (zh jr):=⟨rfl,rfl,rfl,by decide +kernel,rfl,by decide +kernel,by decide +kernel⟩
theorem TV{f:Addr}{fd:FuncData}(A_:zY K mg "best" jr f fd)(h_lead_points:DefOk P w K mg base "lead_points" 1 1 ["place"] yO)(h_first_of_most:DefOk P w K mg base "first_of_most" 1 1 ["tails"] zR)(h_longer_tails:DefOk P w K mg base "longer_tails" 3 3 ["sign", "name", "tails"] yW)(h_last_sign_tails:DefOk P w K mg base "last_sign_tails" 3 2 ["sign", "name"] yi)(z_len:mg "len" = none)(z_range:mg "range" = none):DefOk P w K mg base "best" 4 2 ["query", "name"] vH:=by
 refine DefOk.mk (k:=3) A_ sc_best rfl (fun _ _ _ _ _ _ us hl=>by obtain⟨_,_,rfl⟩:=lnz2 hl;rfl) (fun cdv A outer s H E hr=>?_) fun _ _ _ h=>h
 exact(zp (xf (z0 (wR hr.units) (ya xX rfl z_len PySem.boot_len (zc (zb (pv 0)) zk)) zm (yA _)) (zq (zM (vo (zc zm (zc (vq zk) zk))))) yg) (zp (yk (i:=2) sc_best.nd rfl (Or.inl rfl) (zG h_last_sign_tails (hr.mono (by decide)) (zc (z9 yC (zb (pv 0)) (vp zm)) (zc (zb (pv 1)) zk)) (zg (zg zu)))) (zp (vn PassesOwn.never rfl (Uh rfl z_range (zc (zC uZ (ya xX rfl z_len PySem.boot_len (zc (zb (pv 0)) zk)) zm) (zc (vp zm) (zc (vp zm) zk)))) (yM sc_best.nd rfl (Or.inl rfl)) (zq (yk (i:=2) sc_best.nd rfl (Or.inl rfl) (zG h_longer_tails (hr.mono (by decide)) (zc (z9 yC (zb (pv 0)) (zb (pv 3))) (zc (zb (pv 1)) (zc (zb (pv 2)) zk))) (zg (zg (zg zu))))))) (zq (zM (zG h_first_of_most (hr.mono (by decide)) (zc (vF (wf (tn:=["tail"]) (fr:=[]) (idx:=[]) rfl rfl trivial (vd 0) (PDI.h (wE (zb (pv 2)))) (fun s H C fp=>(yM (show List.Nodup (["tail"]:List Str) by decide +kernel) rfl (Or.inl rfl))) (fun s H C fp=>vP) (fun s H C fp=>(vo (zc (zC zN (z9 yC (zb (pv 0)) zm) (zG h_lead_points (hr.mono (by decide)) (zc (z9 yC (z9 yC (zb (pv 0)) zm) zm) zk) (zg zu))) (zc (z9 yC (zb (pv 0)) zm) zk)))))) zk) (zg zu)))))))
noncomputable abbrev yV:Stmt:=top 32
theorem sc_fitting_rows:zJ ["names", "query", "numbers", "rows", "number", "laid"] ["names", "query", "numbers"] (zh yV):=⟨rfl,rfl,rfl,by decide +kernel,rfl,by decide +kernel,by decide +kernel⟩
theorem ZY{f:Addr}{fd:FuncData}(A_:zY K mg "fitting_rows" yV f fd)(h_best:DefOk P w K mg base "best" 4 2 ["query", "name"] vH):DefOk P w K mg base "fitting_rows" 5 3 ["names", "query", "numbers"] yF:=by
 refine DefOk.mk (k:=4) A_ sc_fitting_rows rfl (fun _ _ _ _ _ _ us hl=>by obtain⟨_,_,_,rfl⟩:=lnz3 hl;rfl) (fun cdv A outer s H E hr=>?_) fun _ _ _ h=>h
 exact(zp (Yr (i:=3) sc_fitting_rows.nd rfl (Or.inl rfl) (Wt zk)) (zp (vn PassesOwn.never rfl (wE (zb (pv 2))) (yM sc_fitting_rows.nd rfl (Or.inl rfl)) (zp (yk (i:=5) sc_fitting_rows.nd rfl (Or.inl rfl) (zG h_best (hr.mono (by decide)) (zc (zb (pv 1)) (zc (z9 yC (zb (pv 0)) (zb (pv 4))) zk)) (zg (zg zu)))) (zq (xf (z0 XN (zb (pv 5)) Z5 (yA _)) (zq (Ws (pv 3) (vo (zc (z9 yC (zb (pv 5)) zm) (zc (zb (pv 4)) zk))))) yg)))) (zq (jS (pv 3)))))
noncomputable abbrev x8:Stmt:=top 35
theorem W6:zJ ["names", "query"] ["names", "query"] (zh x8):=⟨rfl,rfl,rfl,by decide +kernel,rfl,by decide +kernel,by decide +kernel⟩
theorem Vj{f:Addr}{fd:FuncData}(A_:zY K mg "all_rows" x8 f fd)(h_fitting_rows:DefOk P w K mg base "fitting_rows" 5 3 ["names", "query", "numbers"] yF)(z_len:mg "len" = none)(z_list:mg "list" = none)(z_range:mg "range" = none):DefOk P w K mg base "all_rows" 6 2 ["names", "query"] xS:=by
 refine DefOk.mk (k:=5) A_ W6 rfl (fun _ _ _ _ _ _ us hl=>by obtain⟨_,_,rfl⟩:=lnz2 hl;rfl) (fun cdv A outer s H E hr=>?_) fun _ _ _ h=>h
 exact(zq (zM (zG h_fitting_rows (hr.mono (by decide)) (zc (zb (pv 0)) (zc (zb (pv 1)) (zc (vF (wQ rfl rfl z_list rfl z_range (zc (ya xX rfl z_len PySem.boot_len (zc (zb (pv 0)) zk)) zk))) zk))) (zg (zg (zg zu))))))
noncomputable abbrev vX:Stmt:=top 36
theorem Q4:zJ ["names", "query", "many"] ["names", "query", "many"] (zh vX):=⟨rfl,rfl,rfl,by decide +kernel,rfl,by decide +kernel,by decide +kernel⟩
theorem GH{f:Addr}{fd:FuncData}(A_:zY K mg "finds" vX f fd)(h_all_rows:DefOk P w K mg base "all_rows" 6 2 ["names", "query"] xS)(h_first_rows:DefOk P w K mg base "first_rows" 5 3 ["names", "rows", "many"] y4):DefOk P w K mg base "finds" 7 3 ["names", "query", "many"] wo:=by
 refine DefOk.mk (k:=6) A_ Q4 rfl (fun _ _ _ _ _ _ us hl=>by obtain⟨_,_,_,rfl⟩:=lnz3 hl;rfl) (fun cdv A outer s H E hr=>?_) fun _ _ _ h=>h
 exact(zq (zM (zG h_first_rows (hr.mono (by decide)) (zc (zb (pv 0)) (zc (zG h_all_rows (hr.mono (by decide)) (zc (zb (pv 0)) (zc (zb (pv 1)) zk)) (zg (zg zu))) (zc (zb (pv 2)) zk))) (zg (zg (zg zu))))))
noncomputable abbrev yv:Stmt:=top 6
theorem sc_earliest_places:zJ ["query", "name", "places", "place"] ["query", "name"] (zh yv):=⟨rfl,rfl,rfl,by decide +kernel,rfl,by decide +kernel,by decide +kernel⟩
theorem jw{f:Addr}{fd:FuncData}(A_:zY K mg "earliest_places" yv f fd)(h_meets:DefOk P w K mg base "meets" 1 2 ["sign", "other"] xH)(z_len:mg "len" = none)(z_range:mg "range" = none):DefOk P w K mg base "earliest_places" 2 2 ["query", "name"] yI:=by
 refine DefOk.mk (k:=1) A_ sc_earliest_places rfl (fun _ _ _ _ _ _ us hl=>by obtain⟨_,_,rfl⟩:=lnz2 hl;rfl) (fun cdv A outer s H E hr=>?_) fun _ _ _ h=>h
 exact(zp (Yr (i:=2) sc_earliest_places.nd rfl (Or.inl rfl) (Wt zk)) (zp (vn PassesOwn.never rfl (wy rfl z_range (zc (ya xX rfl z_len PySem.boot_len (zc (zb (pv 1)) zk)) zk)) (yM sc_earliest_places.nd rfl (Or.inl rfl)) (zq (xf (jR (uV (z0 Ui (Yv (pv 2) rfl z_len) (ya xX rfl z_len PySem.boot_len (zc (zb (pv 0)) zk)) (yA _)) (vO (uW (zG h_meets (hr.mono (by decide)) (zc (z9 yC (zb (pv 0)) (Yv (pv 2) rfl z_len)) (zc (z9 yC (zb (pv 1)) (zb (pv 3))) zk)) (zg (zg zu))))))) (zq (Ws (pv 2) (zb (pv 3)))) yg))) (zq (jS (pv 2)))))
noncomputable abbrev jq:Stmt:=top 7
theorem M5:zJ ["query", "name"] ["query", "name"] (zh jq):=⟨rfl,rfl,rfl,by decide +kernel,rfl,by decide +kernel,by decide +kernel⟩
theorem TU{f:Addr}{fd:FuncData}(A_:zY K mg "fits" jq f fd)(h_earliest_places:DefOk P w K mg base "earliest_places" 2 2 ["query", "name"] yI)(z_len:mg "len" = none):DefOk P w K mg base "fits" 3 2 ["query", "name"] uG:=by
 refine DefOk.mk (k:=2) A_ M5 rfl (fun _ _ _ _ _ _ us hl=>by obtain⟨_,_,rfl⟩:=lnz2 hl;rfl) (fun cdv A outer s H E hr=>?_) fun _ _ _ h=>h
 exact(zq (zM (v5 (wR hr.units) (ya xX rfl z_len PySem.boot_len (zc (zG h_earliest_places (hr.mono (by decide)) (zc (zb (pv 0)) (zc (zb (pv 1)) zk)) (zg (zg zu))) zk)) (ya xX rfl z_len PySem.boot_len (zc (zb (pv 0)) zk)) (yA _))))
noncomputable abbrev yt:Stmt:=top 10
theorem jo:zJ ["counts", "letter"] ["counts", "letter"] (zh yt):=⟨rfl,rfl,rfl,by decide +kernel,rfl,by decide +kernel,by decide +kernel⟩
theorem ju{f:Addr}{fd:FuncData}(A_:zY K mg "small_and_great" yt f fd):DefOk P w K mg base "small_and_great" 1 2 ["counts", "letter"] z8:=by
 refine DefOk.mk (k:=0) A_ jo rfl (fun _ _ _ _ _ _ us hl=>by obtain⟨_,_,rfl⟩:=lnz2 hl;rfl) (fun cdv A outer s H E hr=>?_) fun _ _ _ h=>h
 exact(zq (zM (zC zN (Zm (X6 hr) (zb (pv 0)) (XM (zb (pv 1))) zm ⟨rfl,rfl,rfl,rfl⟩) (Zm (X6 hr) (zb (pv 0)) (XJ (zb (pv 1))) zm ⟨rfl,rfl,rfl,rfl⟩))))
noncomputable abbrev xr:Stmt:=top 11
theorem sc_has_enough:zJ ["counts", "asked", "sign"] ["counts", "asked"] (zh xr):=⟨rfl,rfl,rfl,by decide +kernel,rfl,by decide +kernel,by decide +kernel⟩
theorem Xi{f:Addr}{fd:FuncData}(A_:zY K mg "has_enough" xr f fd)(h_small_and_great:DefOk P w K mg base "small_and_great" 1 2 ["counts", "letter"] z8){t_FIGURES:Tok}(g_FIGURES:mg "FIGURES" = some (.str "0123456789" t_FIGURES)){t_SMALL:Tok}(g_SMALL:mg "SMALL" = some (.str "abcdefghijklmnopqrstuvwxyz" t_SMALL)):DefOk P w K mg base "has_enough" 2 2 ["counts", "asked"] xA:=by
 refine DefOk.mk (k:=1) A_ sc_has_enough rfl (fun _ _ _ _ _ _ us hl=>by obtain⟨_,_,rfl⟩:=lnz2 hl;rfl) (fun cdv A outer s H E hr=>?_) fun _ _ _ h=>h
 exact(zp (vn PassesOwn.never rfl (Jb (zb (pv 1))) (yM sc_has_enough.nd rfl (Or.inl rfl)) (zp (xf (jR (uV (z0 (u0 (wD hr)) (zb (pv 2)) (v4 rfl g_SMALL) (by with_unfolding_all rfl)) (vO (z0 Ui (Zm (X6 hr) (zb (pv 0)) (zb (pv 2)) zm ⟨rfl,rfl,rfl,rfl⟩) (TM (X6 hr) (zb (pv 1)) (zb (pv 2))) (yA _))))) (zq (zM v6)) yg) (zq (xf (jR (uV (z0 (u0 (wD hr)) (zb (pv 2)) (v4 rfl g_FIGURES) (by with_unfolding_all rfl)) (vO (z0 Ui (zG h_small_and_great (hr.mono (by decide)) (zc (zb (pv 0)) (zc (zb (pv 2)) zk)) (zg (zg zu))) (zG h_small_and_great (hr.mono (by decide)) (zc (zb (pv 1)) (zc (zb (pv 2)) zk)) (zg (zg zu))) (yA _))))) (zq (zM v6)) yg)))) (zq (zM v6)))
noncomputable abbrev xU:Stmt:=Z9 (top 12) 1
theorem sc_Sieve_left:zJ ["self", "query", "asked"] ["self", "query"] (zh xU):=⟨rfl,rfl,rfl,by decide +kernel,rfl,by decide +kernel,by decide +kernel⟩
theorem Xn{C_Sieve:Addr}(A_Sieve:ClsAt K mg "Sieve" C_Sieve)(n_Sieve_counts:NoAttr K C_Sieve "counts")(h_has_enough:DefOk P w K mg base "has_enough" 2 2 ["counts", "asked"] xA)(h_sign_counts:DefOk P w K mg base "sign_counts" 1 1 ["text"] yd)(z_enumerate:mg "enumerate" = none){f:Addr}{fd:FuncData}(M_:Xv K C_Sieve "left" f)(D_:Fun K "left" "Sieve.left" xU f fd):MetR P w K mg base "Sieve" "left" 3 1 ["self", "query"] zQ:=by
 refine MetR.mk (k:=2) A_Sieve M_ D_ sc_Sieve_left rfl (fun _ _ _ _ _ _ us hl=>by obtain⟨_,_,rfl⟩:=lnz2 hl;rfl) (fun cdv A outer s H E hr=>?_)
 exact(zp (yk (i:=2) sc_Sieve_left.nd rfl (Or.inr rfl) (zG h_sign_counts (hr.mono (by decide)) (zc (zb (pv 1)) zk) (zg zu))) (zq (zM (vF (wf (tn:=["number", "counts"]) (fr:=["asked"]) (idx:=[2]) rfl rfl ⟨rfl,rfl,trivial⟩ (Yj 0 1) (TJ (pv 0) A_Sieve.ns A_Sieve.cls n_Sieve_counts rfl z_enumerate (by decide +kernel)) (fun s H C fp=>(Yt rfl (show List.Nodup (["number", "counts", "asked"]:List Str) by decide +kernel) rfl (Or.inl rfl) rfl (Or.inl rfl))) (fun s H C fp=>(uB (uW (zG h_has_enough (hr.mono (by decide)) (zc (zb (pv 1)) (zc (zb (pv 2)) zk)) (zg (zg zu)))))) (fun s H C fp=>(zb (pv 0))))))))
noncomputable abbrev we:Stmt:=Z9 (top 12) 2
theorem Wl:zJ ["self", "name"] ["self", "name"] (zh we):=⟨rfl,rfl,rfl,by decide +kernel,rfl,by decide +kernel,by decide +kernel⟩
theorem Wz{C_Sieve:Addr}(A_Sieve:ClsAt K mg "Sieve" C_Sieve)(n_Sieve_counts:NoAttr K C_Sieve "counts")(h_sign_counts:DefOk P w K mg base "sign_counts" 1 1 ["text"] yd)(z_len:mg "len" = none){f:Addr}{fd:FuncData}(M_:Xv K C_Sieve "add" f)(D_:Fun K "add" "Sieve.add" we f fd):MetM P w K mg base "Sieve" "add" 2 1 ["self", "name"] xn:=by
 refine MetM.mk (k:=1) A_Sieve M_ D_ Wl rfl (fun _ _ _ _ _ _ us hl=>by obtain⟨_,_,rfl⟩:=lnz2 hl;rfl) (fun cdv A outer s H E hr=>?_)
 exact(zp (Gq (pv 0) A_Sieve.ns A_Sieve.cls n_Sieve_counts (zG h_sign_counts (hr.mono (by decide)) (zc (zb (pv 1)) zk) (zg zu)) (by decide +kernel)) (zq (Gp (zC uZ (Gx (pv 0) A_Sieve.ns A_Sieve.cls n_Sieve_counts rfl z_len (by decide +kernel)) zm))))
noncomputable abbrev xE:Stmt:=Z9 (top 12) 3
theorem sc_Sieve_signs:zJ ["self", "having", "counts", "sign"] ["self"] (zh xE):=⟨rfl,rfl,rfl,by decide +kernel,rfl,by decide +kernel,by decide +kernel⟩
theorem YD{C_Sieve:Addr}(A_Sieve:ClsAt K mg "Sieve" C_Sieve)(n_Sieve_counts:NoAttr K C_Sieve "counts")(z_sorted:mg "sorted" = none){f:Addr}{fd:FuncData}(M_:Xv K C_Sieve "signs" f)(D_:Fun K "signs" "Sieve.signs" xE f fd):MetR P w K mg base "Sieve" "signs" 1 0 ["self"] yr:=by
 refine MetR.mk (k:=0) A_Sieve M_ D_ sc_Sieve_signs rfl (fun _ _ _ _ _ _ us hl=>by obtain⟨_,rfl⟩:=lnz1 hl;rfl) (fun cdv A outer s H E hr=>?_)
 exact(Uf (i:=1) (j:=0) (r:=2) sc_Sieve_signs.nd rfl PassesOwn.never rfl (Or.inl rfl) rfl (Or.inl rfl) (by decide) (pv 0) A_Sieve.ns A_Sieve.cls n_Sieve_counts (uU (U4 (r:=3) PassesOwn.never rfl (Jb (zb (pv 2))) sc_Sieve_signs.nd rfl (Or.inl rfl) (by decide) (uU (U3 (X6 hr) (pv 1) (pv 1) (zb (pv 3)) (zb (pv 3)) ⟨rfl,rfl,rfl,rfl⟩)))) (pv 1) rfl z_sorted (by decide +kernel))
noncomputable abbrev jO:Stmt:=top 44
theorem sc_law:zJ ["_law_script", "_law_names_here", "_law_query_here", "_law_sieve", "_law_left", "_law_longer", "_law_rows", "_law_other"] ["_law_script"] (zh jO):=⟨rfl,rfl,rfl,by decide +kernel,rfl,by decide +kernel,by decide +kernel⟩
theorem ze2{f:Addr}{fd:FuncData}(A_:Fun K "law" "law" jO f fd)(h_Sieve_signs:MetR P w K mg base "Sieve" "signs" 1 0 ["self"] yr)(h_Sieve_left:MetR P w K mg base "Sieve" "left" 3 1 ["self", "query"] zQ)(h_Sieve_add:MetM P w K mg base "Sieve" "add" 2 1 ["self", "name"] xn)(c_Sieve:ClsM P w K mg base "Sieve" 2 1 ["self", "names"] yn)(h_finds:DefOk P w K mg base "finds" 7 3 ["names", "query", "many"] wo)(h__law_drawn:DefOk P w K mg base "_law_drawn" 2 3 ["_law_script", "_law_k", "_law_many"] zv)(h_fits:DefOk P w K mg base "fits" 3 2 ["query", "name"] uG)(h__law_query:DefOk P w K mg base "_law_query" 3 4 ["_law_script", "_law_at", "_law_name_here", "_law_most"] xB)(h__law_names:DefOk P w K mg base "_law_names" 4 3 ["_law_script", "_law_at", "_law_most"] xC)(z_len:mg "len" = none)(z_list:mg "list" = none)(z_range:mg "range" = none)(z_enumerate:mg "enumerate" = none):FnOk P w K mg base CX0 8 f fd ["_law_script"] (spD K 1 Jk):=by
 refine fnD (k:=7) A_ sc_law rfl fun cdv A outer s H E hr=>?_
 exact(zp (yk (i:=1) sc_law.nd rfl (Or.inr rfl) (zG h__law_names (hr.mono (by decide)) (zc (zb (pv 0)) (zc zm (zc zm zk))) (zg (zg (zg zu))))) (zp (yk (i:=2) sc_law.nd rfl (Or.inr rfl) (zG h__law_query (hr.mono (by decide)) (zc (zb (pv 0)) (zc zm (zc (z9 yC (zC zN (zb (pv 1)) (vq (zc wY zk))) (zG h__law_drawn (hr.mono (by decide)) (zc (zb (pv 0)) (zc zm (zc (zC zN (ya xX rfl z_len PySem.boot_len (zc (zb (pv 1)) zk)) zm) zk))) (zg (zg (zg zu))))) (zc zm zk)))) (zg (zg (zg (zg zu)))))) (zp (Vf (i:=3) c_Sieve (hr.mono (by decide)) rfl (zc (zb (pv 1)) zk) (zg zu) sc_law.nd rfl (Or.inl rfl)) (zp (yk (i:=4) sc_law.nd rfl (Or.inr rfl) (w6 h_Sieve_left (hr.mono (by decide)) (pv 3) (zc (zb (pv 2)) zk) (zg zu))) (zp (xf (z0 (jt hr.units) (vF (wf (tn:=["_law_number", "_law_name_here"]) (fr:=["_law_query_here", "_law_left"]) (idx:=[2,4]) rfl rfl ⟨rfl,rfl,⟨rfl,rfl,trivial⟩⟩ (Yj 0 1) (PDI.h (Gv rfl z_enumerate (zc (zb (pv 1)) zk))) (fun s H C fp=>(Yt rfl (show List.Nodup (["_law_number", "_law_name_here", "_law_query_here", "_law_left"]:List Str) by decide +kernel) rfl (Or.inl rfl) rfl (Or.inl rfl))) (fun s H C fp=>(uB (jR (uV (uW (zG h_fits (hr.mono (by decide)) (zc (zb (pv 2)) (zc (zb (pv 1)) zk)) (zg (zg zu)))) (vO (z0 (u0 (wD hr)) (zb (pv 0)) (zb (pv 3)) (by with_unfolding_all rfl))))))) (fun s H C fp=>(zb (pv 0))))) (vq zk) (yA _)) (zq (zM v6)) yg) (zp (xf (jR (Ue (z0 (jt hr.units) (w6 h_Sieve_left (hr.mono (by decide)) (pv 3) (zc (TK (zb (pv 2)) (vp zm)) zk) (zg zu)) (zb (pv 4)) (yA _)) (Wr (z0 (jt hr.units) (w6 h_Sieve_left (hr.mono (by decide)) (pv 3) (zc (zC zN (Wu (zb (pv 2)) (uC zm) Ys) (Wu (zb (pv 2)) Ys (uC zm))) zk) (zg zu)) (zb (pv 4)) (yA _))))) (zq (zM v6)) yg) (zp (xf (z0 (jt hr.units) (w6 h_Sieve_left (hr.mono (by decide)) (pv 3) (zc wY zk) (zg zu)) (vF (wQ rfl rfl z_list rfl z_range (zc (ya xX rfl z_len PySem.boot_len (zc (zb (pv 1)) zk)) zk))) (yA _)) (zq (zM v6)) yg) (zp (yk (i:=5) sc_law.nd rfl (Or.inl rfl) (w6 h_Sieve_left (hr.mono (by decide)) (pv 3) (zc (zC zN (zb (pv 2)) (z9 yC wY (zG h__law_drawn (hr.mono (by decide)) (zc (zb (pv 0)) (zc zm (zc zm zk))) (zg (zg (zg zu)))))) zk) (zg zu))) (zp (xf (z0 (jt hr.units) (vF (wf (tn:=["_law_number"]) (fr:=["_law_left"]) (idx:=[4]) rfl rfl ⟨rfl,rfl,trivial⟩ (vd 0) (PDI.h (wE (zb (pv 5)))) (fun s H C fp=>(yM (show List.Nodup (["_law_number", "_law_left"]:List Str) by decide +kernel) rfl (Or.inl rfl))) (fun s H C fp=>(uB (z0 (u0 (wD hr)) (zb (pv 0)) (zb (pv 1)) (by with_unfolding_all rfl)))) (fun s H C fp=>(zb (pv 0))))) (vq zk) (yA _)) (zq (zM v6)) yg) (zp (J8 (i:=6) sc_law.nd rfl rfl rfl (tn:=["_law_count", "_law_number"]) (fr:=["_law_left"]) (idx:=[4]) rfl rfl ⟨rfl,rfl,trivial⟩ (Yj 0 1) (PDI.h (wE (zG h_finds (hr.mono (by decide)) (zc (vF (wf (tn:=["_law_number"]) (fr:=["_law_names_here"]) (idx:=[1]) rfl rfl ⟨rfl,rfl,trivial⟩ (vd 0) (PDI.h (wE (zb (pv 4)))) (fun s H C fp=>(yM (show List.Nodup (["_law_number", "_law_names_here"]:List Str) by decide +kernel) rfl (Or.inl rfl))) (fun s H C fp=>vP) (fun s H C fp=>(z9 yC (zb (pv 1)) (zb (pv 0)))))) (zc (zb (pv 2)) (zc zm zk))) (zg (zg (zg zu)))))) (fun s H C fp=>(Yt rfl (show List.Nodup (["_law_count", "_law_number", "_law_left"]:List Str) by decide +kernel) rfl (Or.inl rfl) rfl (Or.inl rfl))) (fun s H C fp=>vP) (fun s H C fp=>(vo (zc (zb (pv 0)) (zc (z9 yC (zb (pv 2)) (zb (pv 1))) zk))))) (zp (xf (z0 (jt hr.units) (zb (pv 6)) (zG h_finds (hr.mono (by decide)) (zc (zb (pv 1)) (zc (zb (pv 2)) (zc zm zk))) (zg (zg (zg zu)))) (yA _)) (zq (zM v6)) yg) (zp (Vf (i:=7) c_Sieve (hr.mono (by decide)) rfl (zc (vq zk) zk) (zg zu) sc_law.nd rfl (Or.inr rfl)) (zp (TF (Gr (jt hr.units) (Gu (tn:=["_law_name_here"]) (fr:=["_law_other"]) (idx:=[7]) (i:=7) (p:=1) (c := "Sieve") rfl rfl ⟨rfl,rfl,trivial⟩ (by decide) rfl (GQ 0) Um (wE (zb (pv 1))) (fun s H C fp=>(yM (show List.Nodup (["_law_name_here", "_law_other"]:List Str) by decide +kernel) rfl (Or.inl rfl))) (fun s H C fp=>(Gs h_Sieve_add (hr.mono (by decide)) (pv 1) (zc (zb (pv 0)) zk) (zg zu)))) (vF (wQ rfl rfl z_list rfl z_range (zc (ya xX rfl z_len PySem.boot_len (zc (zb (pv 1)) zk)) zk))) (yA _)) (zq (zM v6)) yg) (zq (zM (Jd (v5 (wR hr.units) (w6 h_Sieve_left (hr.mono (by decide)) (pv 7) (zc (zb (pv 2)) zk) (zg zu)) (zb (pv 4)) (yA _)) (Z4 (v5 (wR hr.units) (Yu h_Sieve_signs (hr.mono (by decide)) (pv 7)) (Yu h_Sieve_signs (hr.mono (by decide)) (pv 3)) (yA _)))))))))))))))))))
end
set_option autoImplicit true in
set_option relaxedAutoImplicit true in
theorem all_mk{l:PySem.W.OpenLaw}{w:World}{K:Frag}{h:Heap}{mg:Str→Option Value}{fa:Addr}(X:K.In h)(G:h.Ns mainGlobals mg)(hfa:mg "law" = some (.ref fa))(hl:∀ns:List Int,ns.length≤63→Jk [.scr ns]=.ok (.bl true))
  {f0 f1 f2 f3 f4 f5 f6 f7 f8 f9 f10 f11 f12 f13 f14 f15 f16 f17 f18 f19 f20 f21 f22 f23 f24 f25 f26 f27 f28 f29 f30:Addr}
  {C_Sieve:Addr}
  (ns_Sieve:nsIn K mainGlobals "Sieve" = some (some (.ref C_Sieve)))
  (pg_Sieve:plainGet K C_Sieve Str.empty=true)
  (hd_Sieve:hasDictIn K C_Sieve=true)
  (po_Sieve:plainOver K C_Sieve=true)
  (sa_Sieve:findIn K (.ref C_Sieve) "__setattr__" = some (some (.builtin "object.__setattr__")))
  (mk_Sieve:makesIn K C_Sieve=true)
  (kc_Sieve:keepIn K (.ref C_Sieve)=true)
  (n_Sieve_counts:findIn K (.ref C_Sieve) "counts" = some none)
  (a0:nsIn K mainGlobals "_law_cell" = some (some (.ref f0))) (l0:K.lookup f0=some ⟨oc0,od0,.func (fnOf "_law_cell" "_law_cell" (zI xP) (zB xP) (zh xP) .none kV0 dc0 pm0 an0 cd0 ct0),sl0⟩) (c0:codeIn K cd0 "_law_cell" = true) (k0:keepIn K (.ref f0)=true)
  (a1:nsIn K mainGlobals "_law_drawn" = some (some (.ref f1))) (l1:K.lookup f1=some ⟨oc1,od1,.func (fnOf "_law_drawn" "_law_drawn" (zI xx) (zB xx) (zh xx) .none kV1 dc1 pm1 an1 cd1 ct1),sl1⟩) (c1:codeIn K cd1 "_law_drawn" = true) (k1:keepIn K (.ref f1)=true)
  (a2:nsIn K mainGlobals "_law_name" = some (some (.ref f2))) (l2:K.lookup f2=some ⟨oc2,od2,.func (fnOf "_law_name" "_law_name" (zI xN) (zB xN) (zh xN) .none kV2 dc2 pm2 an2 cd2 ct2),sl2⟩) (c2:codeIn K cd2 "_law_name" = true) (k2:keepIn K (.ref f2)=true)
  (a3:nsIn K mainGlobals "_law_names" = some (some (.ref f3))) (l3:K.lookup f3=some ⟨oc3,od3,.func (fnOf "_law_names" "_law_names" (zI xw) (zB xw) (zh xw) .none kV3 dc3 pm3 an3 cd3 ct3),sl3⟩) (c3:codeIn K cd3 "_law_names" = true) (k3:keepIn K (.ref f3)=true)
  (a4:nsIn K mainGlobals "_law_mark" = some (some (.ref f4))) (l4:K.lookup f4=some ⟨oc4,od4,.func (fnOf "_law_mark" "_law_mark" (zI xO) (zB xO) (zh xO) .none kV4 dc4 pm4 an4 cd4 ct4),sl4⟩) (c4:codeIn K cd4 "_law_mark" = true) (k4:keepIn K (.ref f4)=true)
  (a5:nsIn K mainGlobals "_law_query" = some (some (.ref f5))) (l5:K.lookup f5=some ⟨oc5,od5,.func (fnOf "_law_query" "_law_query" (zI xv) (zB xv) (zh xv) .none kV5 dc5 pm5 an5 cd5 ct5),sl5⟩) (c5:codeIn K cd5 "_law_query" = true) (k5:keepIn K (.ref f5)=true)
  (a6:nsIn K mainGlobals "sign_counts" = some (some (.ref f6))) (l6:K.lookup f6=some ⟨oc6,od6,.func (fnOf "sign_counts" "sign_counts" (zI xa) (zB xa) (zh xa) .none kV6 dc6 pm6 an6 cd6 ct6),sl6⟩) (c6:codeIn K cd6 "sign_counts" = true) (k6:keepIn K (.ref f6)=true)
  (a7:findIn K (.ref C_Sieve) "__init__" = some (some (.ref f7))) (i7:isFn K (.ref f7)=true) (l7:K.lookup f7=some ⟨oc7,od7,.func (fnOf "__init__" "Sieve.__init__" (zI yQ) (zB yQ) (zh yQ) .none kV7 dc7 pm7 an7 cd7 ct7),sl7⟩) (c7:codeIn K cd7 "Sieve.__init__" = true) (k7:keepIn K (.ref f7)=true)
  (a8:nsIn K mainGlobals "in_order" = some (some (.ref f8))) (l8:K.lookup f8=some ⟨oc8,od8,.func (fnOf "in_order" "in_order" (zI ww) (zB ww) (zh ww) .none kV8 dc8 pm8 an8 (.ref cc8) ct8),sl8⟩) (c8:codeIn K (.ref cc8) "in_order" = true) (k8:keepIn K (.ref f8)=true) (tb8:PySem.W.codeHdIn K cc8 160=true)
  (a9:nsIn K mainGlobals "first_rows" = some (some (.ref f9))) (l9:K.lookup f9=some ⟨oc9,od9,.func (fnOf "first_rows" "first_rows" (zI xu) (zB xu) (zh xu) .none kV9 dc9 pm9 an9 cd9 ct9),sl9⟩) (c9:codeIn K cd9 "first_rows" = true) (k9:keepIn K (.ref f9)=true)
  (a10:nsIn K mainGlobals "beginning_points" = some (some (.ref f10))) (l10:K.lookup f10=some ⟨oc10,od10,.func (fnOf "beginning_points" "beginning_points" (zI ym) (zB ym) (zh ym) .none kV10 dc10 pm10 an10 cd10 ct10),sl10⟩) (c10:codeIn K cd10 "beginning_points" = true) (k10:keepIn K (.ref f10)=true)
  (a11:nsIn K mainGlobals "own_points" = some (some (.ref f11))) (l11:K.lookup f11=some ⟨oc11,od11,.func (fnOf "own_points" "own_points" (zI xq) (zB xq) (zh xq) .none kV11 dc11 pm11 an11 cd11 ct11),sl11⟩) (c11:codeIn K cd11 "own_points" = true) (k11:keepIn K (.ref f11)=true)
  (a12:nsIn K mainGlobals "meets" = some (some (.ref f12))) (l12:K.lookup f12=some ⟨oc12,od12,.func (fnOf "meets" "meets" (zI vW) (zB vW) (zh vW) .none kV12 dc12 pm12 an12 cd12 ct12),sl12⟩) (c12:codeIn K cd12 "meets" = true) (k12:keepIn K (.ref f12)=true)
  (a13:nsIn K mainGlobals "last_sign_tails" = some (some (.ref f13))) (l13:K.lookup f13=some ⟨oc13,od13,.func (fnOf "last_sign_tails" "last_sign_tails" (zI yu) (zB yu) (zh yu) .none kV13 dc13 pm13 an13 cd13 ct13),sl13⟩) (c13:codeIn K cd13 "last_sign_tails" = true) (k13:keepIn K (.ref f13)=true)
  (a14:nsIn K mainGlobals "first_of_most" = some (some (.ref f14))) (l14:K.lookup f14=some ⟨oc14,od14,.func (fnOf "first_of_most" "first_of_most" (zI yJ) (zB yJ) (zh yJ) .none kV14 dc14 pm14 an14 cd14 ct14),sl14⟩) (c14:codeIn K cd14 "first_of_most" = true) (k14:keepIn K (.ref f14)=true)
  (a15:nsIn K mainGlobals "link_points" = some (some (.ref f15))) (l15:K.lookup f15=some ⟨oc15,od15,.func (fnOf "link_points" "link_points" (zI xb) (zB xb) (zh xb) .none kV15 dc15 pm15 an15 cd15 ct15),sl15⟩) (c15:codeIn K cd15 "link_points" = true) (k15:keepIn K (.ref f15)=true)
  (a16:nsIn K mainGlobals "linked_tails" = some (some (.ref f16))) (l16:K.lookup f16=some ⟨oc16,od16,.func (fnOf "linked_tails" "linked_tails" (zI yU) (zB yU) (zh yU) .none kV16 dc16 pm16 an16 cd16 ct16),sl16⟩) (c16:codeIn K cd16 "linked_tails" = true) (k16:keepIn K (.ref f16)=true)
  (a17:nsIn K mainGlobals "longer_tails" = some (some (.ref f17))) (l17:K.lookup f17=some ⟨oc17,od17,.func (fnOf "longer_tails" "longer_tails" (zI yT) (zB yT) (zh yT) .none kV17 dc17 pm17 an17 cd17 ct17),sl17⟩) (c17:codeIn K cd17 "longer_tails" = true) (k17:keepIn K (.ref f17)=true)
  (a18:nsIn K mainGlobals "lead_points" = some (some (.ref f18))) (l18:K.lookup f18=some ⟨oc18,od18,.func (fnOf "lead_points" "lead_points" (zI xc) (zB xc) (zh xc) .none kV18 dc18 pm18 an18 cd18 ct18),sl18⟩) (c18:codeIn K cd18 "lead_points" = true) (k18:keepIn K (.ref f18)=true)
  (a19:nsIn K mainGlobals "best" = some (some (.ref f19))) (l19:K.lookup f19=some ⟨oc19,od19,.func (fnOf "best" "best" (zI jr) (zB jr) (zh jr) .none kV19 dc19 pm19 an19 cd19 ct19),sl19⟩) (c19:codeIn K cd19 "best" = true) (k19:keepIn K (.ref f19)=true)
  (a20:nsIn K mainGlobals "fitting_rows" = some (some (.ref f20))) (l20:K.lookup f20=some ⟨oc20,od20,.func (fnOf "fitting_rows" "fitting_rows" (zI yV) (zB yV) (zh yV) .none kV20 dc20 pm20 an20 cd20 ct20),sl20⟩) (c20:codeIn K cd20 "fitting_rows" = true) (k20:keepIn K (.ref f20)=true)
  (a21:nsIn K mainGlobals "all_rows" = some (some (.ref f21))) (l21:K.lookup f21=some ⟨oc21,od21,.func (fnOf "all_rows" "all_rows" (zI x8) (zB x8) (zh x8) .none kV21 dc21 pm21 an21 cd21 ct21),sl21⟩) (c21:codeIn K cd21 "all_rows" = true) (k21:keepIn K (.ref f21)=true)
  (a22:nsIn K mainGlobals "finds" = some (some (.ref f22))) (l22:K.lookup f22=some ⟨oc22,od22,.func (fnOf "finds" "finds" (zI vX) (zB vX) (zh vX) .none kV22 dc22 pm22 an22 cd22 ct22),sl22⟩) (c22:codeIn K cd22 "finds" = true) (k22:keepIn K (.ref f22)=true)
  (a23:nsIn K mainGlobals "earliest_places" = some (some (.ref f23))) (l23:K.lookup f23=some ⟨oc23,od23,.func (fnOf "earliest_places" "earliest_places" (zI yv) (zB yv) (zh yv) .none kV23 dc23 pm23 an23 cd23 ct23),sl23⟩) (c23:codeIn K cd23 "earliest_places" = true) (k23:keepIn K (.ref f23)=true)
  (a24:nsIn K mainGlobals "fits" = some (some (.ref f24))) (l24:K.lookup f24=some ⟨oc24,od24,.func (fnOf "fits" "fits" (zI jq) (zB jq) (zh jq) .none kV24 dc24 pm24 an24 cd24 ct24),sl24⟩) (c24:codeIn K cd24 "fits" = true) (k24:keepIn K (.ref f24)=true)
  (a25:nsIn K mainGlobals "small_and_great" = some (some (.ref f25))) (l25:K.lookup f25=some ⟨oc25,od25,.func (fnOf "small_and_great" "small_and_great" (zI yt) (zB yt) (zh yt) .none kV25 dc25 pm25 an25 cd25 ct25),sl25⟩) (c25:codeIn K cd25 "small_and_great" = true) (k25:keepIn K (.ref f25)=true)
  (a26:nsIn K mainGlobals "has_enough" = some (some (.ref f26))) (l26:K.lookup f26=some ⟨oc26,od26,.func (fnOf "has_enough" "has_enough" (zI xr) (zB xr) (zh xr) .none kV26 dc26 pm26 an26 cd26 ct26),sl26⟩) (c26:codeIn K cd26 "has_enough" = true) (k26:keepIn K (.ref f26)=true)
  (a27:findIn K (.ref C_Sieve) "left" = some (some (.ref f27))) (i27:isFn K (.ref f27)=true) (l27:K.lookup f27=some ⟨oc27,od27,.func (fnOf "left" "Sieve.left" (zI xU) (zB xU) (zh xU) .none kV27 dc27 pm27 an27 cd27 ct27),sl27⟩) (c27:codeIn K cd27 "Sieve.left" = true) (k27:keepIn K (.ref f27)=true)
  (a28:findIn K (.ref C_Sieve) "add" = some (some (.ref f28))) (i28:isFn K (.ref f28)=true) (l28:K.lookup f28=some ⟨oc28,od28,.func (fnOf "add" "Sieve.add" (zI we) (zB we) (zh we) .none kV28 dc28 pm28 an28 cd28 ct28),sl28⟩) (c28:codeIn K cd28 "Sieve.add" = true) (k28:keepIn K (.ref f28)=true)
  (a29:findIn K (.ref C_Sieve) "signs" = some (some (.ref f29))) (i29:isFn K (.ref f29)=true) (l29:K.lookup f29=some ⟨oc29,od29,.func (fnOf "signs" "Sieve.signs" (zI xE) (zB xE) (zh xE) .none kV29 dc29 pm29 an29 cd29 ct29),sl29⟩) (c29:codeIn K cd29 "Sieve.signs" = true) (k29:keepIn K (.ref f29)=true)
  (a30:nsIn K mainGlobals "law" = some (some (.ref f30))) (l30:K.lookup f30=some ⟨oc30,od30,.func (fnOf "law" "law" (zI jO) (zB jO) (zh jO) .none kV30 dc30 pm30 an30 cd30 ct30),sl30⟩) (c30:codeIn K cd30 "law" = true) (k30:keepIn K (.ref f30)=true)
  (g_FIGURES:nsIn K mainGlobals "FIGURES" = some (some (.str "0123456789" t_FIGURES)))
  (g_SMALL:nsIn K mainGlobals "SMALL" = some (some (.str "abcdefghijklmnopqrstuvwxyz" t_SMALL)))
  (g_GREAT:nsIn K mainGlobals "GREAT" = some (some (.str "ABCDEFGHIJKLMNOPQRSTUVWXYZ" t_GREAT)))
  (g_AT_GREAT:nsIn K mainGlobals "AT_GREAT" = some (some (.int 5 t_AT_GREAT)))
  (g_MARKS:nsIn K mainGlobals "MARKS" = some (some (.str "_-./" t_MARKS)))
  (g_BEHIND_MARK:nsIn K mainGlobals "BEHIND_MARK" = some (some (.int 6 t_BEHIND_MARK)))
  (g_AT_BEGINNING:nsIn K mainGlobals "AT_BEGINNING" = some (some (.int 8 t_AT_BEGINNING)))
  (g_EACH_PLACE:nsIn K mainGlobals "EACH_PLACE" = some (some (.int 10 t_EACH_PLACE)))
  (g_SAME_SIGN:nsIn K mainGlobals "SAME_SIGN" = some (some (.int 1 t_SAME_SIGN)))
  (g_MOST_BETWEEN:nsIn K mainGlobals "MOST_BETWEEN" = some (some (.int 5 t_MOST_BETWEEN)))
  (g_BESIDE:nsIn K mainGlobals "BESIDE" = some (some (.int 7 t_BESIDE)))
  (g_MOST_AHEAD:nsIn K mainGlobals "MOST_AHEAD" = some (some (.int 3 t_MOST_AHEAD)))
  (z_len:nsIn K mainGlobals "len" = some none)
  (z_range:nsIn K mainGlobals "range" = some none)
  (z_min:nsIn K mainGlobals "min" = some none)
  (z_sorted:nsIn K mainGlobals "sorted" = some none)
  (z_max:nsIn K mainGlobals "max" = some none)
  (z_list:nsIn K mainGlobals "list" = some none)
  (z_enumerate:nsIn K mainGlobals "enumerate" = some none)
  : MR K∧∃fd:FuncData,(∀(s:Shared) (v:Value),BindsTo s fd ⟨[v],[]⟩ [("_law_script", v)])∧∀base:Heap,K.In base→base.Ns mainGlobals mg→BM mg base→FnOk l.prog w K mg base CX0 8 fa fd ["_law_script"] (US K):=by
 have e:=hfa.symm.trans (mg_of X G a30)
 cases e
 refine⟨fun r hr=>?_,?_⟩
 ·rcases hr with _|⟨_,hr⟩
  ·exact⟨_,tb8⟩
  ·cases hr
 have A_Sieve:ClsAt K mg "Sieve" C_Sieve:=⟨ns_Sieve,⟨pg_Sieve,hd_Sieve,po_Sieve,sa_Sieve⟩,mg_of X G ns_Sieve⟩
 have D0:zY K mg "_law_cell" xP f0 _:=⟨yq (st:=xP) l0 c0 k0,mg_of X G a0⟩
 have D1:zY K mg "_law_drawn" xx f1 _:=⟨yq (st:=xx) l1 c1 k1,mg_of X G a1⟩
 have D2:zY K mg "_law_name" xN f2 _:=⟨yq (st:=xN) l2 c2 k2,mg_of X G a2⟩
 have D3:zY K mg "_law_names" xw f3 _:=⟨yq (st:=xw) l3 c3 k3,mg_of X G a3⟩
 have D4:zY K mg "_law_mark" xO f4 _:=⟨yq (st:=xO) l4 c4 k4,mg_of X G a4⟩
 have D5:zY K mg "_law_query" xv f5 _:=⟨yq (st:=xv) l5 c5 k5,mg_of X G a5⟩
 have D6:zY K mg "sign_counts" xa f6 _:=⟨yq (st:=xa) l6 c6 k6,mg_of X G a6⟩
 have D8:UJ K mg "in_order" ww f8 cc8 160:=⟨⟨_,_,_,_,_,_,_,_,l8⟩,c8,k8,mg_of X G a8,tb8⟩
 have D9:zY K mg "first_rows" xu f9 _:=⟨yq (st:=xu) l9 c9 k9,mg_of X G a9⟩
 have D10:zY K mg "beginning_points" ym f10 _:=⟨yq (st:=ym) l10 c10 k10,mg_of X G a10⟩
 have D11:zY K mg "own_points" xq f11 _:=⟨yq (st:=xq) l11 c11 k11,mg_of X G a11⟩
 have D12:zY K mg "meets" vW f12 _:=⟨yq (st:=vW) l12 c12 k12,mg_of X G a12⟩
 have D13:zY K mg "last_sign_tails" yu f13 _:=⟨yq (st:=yu) l13 c13 k13,mg_of X G a13⟩
 have D14:zY K mg "first_of_most" yJ f14 _:=⟨yq (st:=yJ) l14 c14 k14,mg_of X G a14⟩
 have D15:zY K mg "link_points" xb f15 _:=⟨yq (st:=xb) l15 c15 k15,mg_of X G a15⟩
 have D16:zY K mg "linked_tails" yU f16 _:=⟨yq (st:=yU) l16 c16 k16,mg_of X G a16⟩
 have D17:zY K mg "longer_tails" yT f17 _:=⟨yq (st:=yT) l17 c17 k17,mg_of X G a17⟩
 have D18:zY K mg "lead_points" xc f18 _:=⟨yq (st:=xc) l18 c18 k18,mg_of X G a18⟩
 have D19:zY K mg "best" jr f19 _:=⟨yq (st:=jr) l19 c19 k19,mg_of X G a19⟩
 have D20:zY K mg "fitting_rows" yV f20 _:=⟨yq (st:=yV) l20 c20 k20,mg_of X G a20⟩
 have D21:zY K mg "all_rows" x8 f21 _:=⟨yq (st:=x8) l21 c21 k21,mg_of X G a21⟩
 have D22:zY K mg "finds" vX f22 _:=⟨yq (st:=vX) l22 c22 k22,mg_of X G a22⟩
 have D23:zY K mg "earliest_places" yv f23 _:=⟨yq (st:=yv) l23 c23 k23,mg_of X G a23⟩
 have D24:zY K mg "fits" jq f24 _:=⟨yq (st:=jq) l24 c24 k24,mg_of X G a24⟩
 have D25:zY K mg "small_and_great" yt f25 _:=⟨yq (st:=yt) l25 c25 k25,mg_of X G a25⟩
 have D26:zY K mg "has_enough" xr f26 _:=⟨yq (st:=xr) l26 c26 k26,mg_of X G a26⟩
 refine⟨fnOf "law" "law" (zI jO) (zB jO) (zh jO) .none kV30 dc30 pm30 an30 cd30 ct30,fun s v=>.of_eq rfl,fun base _ _ bm=>?_⟩
 have h__law_cell:DefOk l.prog w K mg base "_law_cell" 1 2 ["_law_script", "_law_k"] wg:=Wy D0 (mg_none_of X G z_len)
 have h__law_drawn:DefOk l.prog w K mg base "_law_drawn" 2 3 ["_law_script", "_law_k", "_law_many"] zv:=Xm D1 h__law_cell
 have h__law_name:DefOk l.prog w K mg base "_law_name" 3 2 ["_law_script", "_law_at"] xl:=Ww D2 h__law_drawn (mg_none_of X G z_range)
 have h__law_names:DefOk l.prog w K mg base "_law_names" 4 3 ["_law_script", "_law_at", "_law_most"] xC:=Xl D3 h__law_drawn h__law_name (mg_none_of X G z_len) (mg_none_of X G z_range)
 have h__law_mark:DefOk l.prog w K mg base "_law_mark" 1 1 ["_law_sign"] xm:=Wx D4
 have h__law_query:DefOk l.prog w K mg base "_law_query" 3 4 ["_law_script", "_law_at", "_law_name_here", "_law_most"] xB:=Xk D5 h__law_drawn h__law_mark (mg_none_of X G z_range) (mg_none_of X G z_len) (mg_none_of X G z_min)
 have h_sign_counts:DefOk l.prog w K mg base "sign_counts" 1 1 ["text"] yd:=YA D6
 have c_Sieve:=jU (P:=l.prog) (w:=w) (base:=base) A_Sieve n_Sieve_counts h_sign_counts ⟨mk_Sieve,a7,i7,kc_Sieve⟩ (yq (st:=yQ) l7 c7 k7)
 have h_in_order:DefOk l.prog w K mg base "in_order" 4 2 ["names", "rows"] xR:=Vi D8 bm (mg_none_of X G z_len) (mg_none_of X G z_sorted)
 have h_first_rows:DefOk l.prog w K mg base "first_rows" 5 3 ["names", "rows", "many"] y4:=Xj D9 h_in_order (mg_none_of X G z_max)
 have h_beginning_points:DefOk l.prog w K mg base "beginning_points" 1 2 ["name", "place"] yB:=jd D10 (mg_of X G g_FIGURES) (mg_of X G g_SMALL) (mg_of X G g_GREAT) (mg_of X G g_AT_GREAT) (mg_of X G g_MARKS) (mg_of X G g_BEHIND_MARK) (mg_of X G g_AT_BEGINNING)
 have h_own_points:DefOk l.prog w K mg base "own_points" 2 3 ["sign", "name", "place"] yx:=Xh D11 h_beginning_points (mg_of X G g_EACH_PLACE) (mg_of X G g_SAME_SIGN)
 have h_meets:DefOk l.prog w K mg base "meets" 1 2 ["sign", "other"] xH:=GG D12 (mg_of X G g_SMALL)
 have h_last_sign_tails:DefOk l.prog w K mg base "last_sign_tails" 3 2 ["sign", "name"] yi:=jv D13 h_meets h_own_points (mg_none_of X G z_len) (mg_none_of X G z_range)
 have h_first_of_most:DefOk l.prog w K mg base "first_of_most" 1 1 ["tails"] zR:=Zp D14
 have h_link_points:DefOk l.prog w K mg base "link_points" 1 2 ["ahead", "place"] xh:=YB D15 (mg_of X G g_MOST_BETWEEN) (mg_of X G g_BESIDE) (mg_none_of X G z_min)
 have h_linked_tails:DefOk l.prog w K mg base "linked_tails" 2 2 ["place", "tails"] yE:=ZX D16 h_link_points
 have h_longer_tails:DefOk l.prog w K mg base "longer_tails" 3 3 ["sign", "name", "tails"] yW:=ZW D17 h_meets h_own_points h_linked_tails h_first_of_most (mg_none_of X G z_len) (mg_none_of X G z_range)
 have h_lead_points:DefOk l.prog w K mg base "lead_points" 1 1 ["place"] yO:=YC D18 (mg_of X G g_MOST_AHEAD) (mg_none_of X G z_min)
 have h_best:DefOk l.prog w K mg base "best" 4 2 ["query", "name"] vH:=TV D19 h_lead_points h_first_of_most h_longer_tails h_last_sign_tails (mg_none_of X G z_len) (mg_none_of X G z_range)
 have h_fitting_rows:DefOk l.prog w K mg base "fitting_rows" 5 3 ["names", "query", "numbers"] yF:=ZY D20 h_best
 have h_all_rows:DefOk l.prog w K mg base "all_rows" 6 2 ["names", "query"] xS:=Vj D21 h_fitting_rows (mg_none_of X G z_len) (mg_none_of X G z_list) (mg_none_of X G z_range)
 have h_finds:DefOk l.prog w K mg base "finds" 7 3 ["names", "query", "many"] wo:=GH D22 h_all_rows h_first_rows
 have h_earliest_places:DefOk l.prog w K mg base "earliest_places" 2 2 ["query", "name"] yI:=jw D23 h_meets (mg_none_of X G z_len) (mg_none_of X G z_range)
 have h_fits:DefOk l.prog w K mg base "fits" 3 2 ["query", "name"] uG:=TU D24 h_earliest_places (mg_none_of X G z_len)
 have h_small_and_great:DefOk l.prog w K mg base "small_and_great" 1 2 ["counts", "letter"] z8:=ju D25
 have h_has_enough:DefOk l.prog w K mg base "has_enough" 2 2 ["counts", "asked"] xA:=Xi D26 h_small_and_great (mg_of X G g_FIGURES) (mg_of X G g_SMALL)
 have h_Sieve_left:=Xn (P:=l.prog) (w:=w) (base:=base) A_Sieve n_Sieve_counts h_has_enough h_sign_counts (mg_none_of X G z_enumerate) ⟨a27,i27,k27⟩ (yq (st:=xU) l27 c27 k27)
 have h_Sieve_add:=Wz (P:=l.prog) (w:=w) (base:=base) A_Sieve n_Sieve_counts h_sign_counts (mg_none_of X G z_len) ⟨a28,i28,k28⟩ (yq (st:=we) l28 c28 k28)
 have h_Sieve_signs:=YD (P:=l.prog) (w:=w) (base:=base) A_Sieve n_Sieve_counts (mg_none_of X G z_sorted) ⟨a29,i29,k29⟩ (yq (st:=xE) l29 c29 k29)
 exact zf5 (ze2 (yq (st:=jO) l30 c30 k30) h_Sieve_signs h_Sieve_left h_Sieve_add c_Sieve h_finds h__law_drawn h_fits h__law_query h__law_names (mg_none_of X G z_len) (mg_none_of X G z_list) (mg_none_of X G z_range) (mg_none_of X G z_enumerate)) hl
end Law
open PySem PySem.W PyProof.Rows
set_option maxRecDepth 100000 in
set_option maxHeartbeats 0 in
theorem PySem.Challenge.cw_fewfind_k81_whole_sieves_holds : PySem.Challenge.rw_fewfind_k81_whole_sieves.Holds := by
 w_on;o_law;k_head;(case hw=>w_witness2)
 k_fill
 refine FD.walkM (l:=PySem.Challenge.rw_fewfind_k81_whole_sieves) (k:=8) (p := "_law_script") rfl rfl ⟨rfl,by decide,by decide⟩ ?T ?F
 case F=>
  intro w mg fa h KX G hmg
  refine' Law.all_mk KX G hmg Law.main ..
  any_goals first|k_is|k_exc|with_unfolding_all rfl
 case T=>decide
