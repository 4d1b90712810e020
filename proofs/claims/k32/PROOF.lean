import PyProof.Rows.All
import Wide.All
import OpenK.AllK
import Wide.FinOn
import Lean
import PyProof.EqAt
import PyProof.EqKinds
import PyProof.TupleCall
import PyProof.NeKinds
import PyProof.NeData
import PyProof.P3In
import PyProof.ZipIter
import PyProof.Draws
import PyProof.StrWalks
import PyProof.IsiPairs
import PyProof.IsiSeqPairs
import PyProof.ConsumeWalk
import PyProof.ListStr
import PyProof.IsiHeapPairs
import PyProof.Rows.Range3
import PyProof.IsiNone
import KE.KRevIter
import KE.KRevSl
import PyProof.Conv_int_bool
import PyProof.ListRange
import PyProof.TupleOfSeq
import PyProof.MinMaxWalk
import PyProof.WalkInts
import PyProof.SeqI3
import PyProof.SetKind
import PyProof.Rows.SetFrom
import PyProof.CollectWalk
import PyProof.FactsAll.set
import PyProof.Rows.SortWalk
import PyProof.Rows.SortShell
import PyProof.Rows.SumAny
import PyProof.DictWalks
import PyProof.Rows.SortRev
import PyProof.Rows.SortStr
import PyProof.AttrMissHeap
import KE.KDictOf
import PySem.Challenge.RW_fewfind_k32_whole_seekers_alike
set_option Elab.async false
set_option linter.all false
set_option maxRecDepth 100000
open PySem.W (instObj methodObj lookIn plainGet hasDictIn findIn plainGet_of isFn plainOver takerIn makesIn emptyDict keepIn callWith_K fnOf codeIn nsIn mg_of mg_none_of)
open PyProof.Rows (boot_list)
open List (mem_filter mem_range mem_cons_self mem_cons_of_mem mem_cons mem_append mem_append_left getElem?_set_self getElem?_set_ne mem_append_right size_toArray length_cons map_cons length_map append_nil nodup_cons length_take getElem?_append_right getElem?_replicate getElem?_append_left getElem?_map mem_of_getElem? length_append length_set replicate_succ flatten_cons append_assoc foldl_cons length_singleton nil_append map_nil getElem?_set drop_eq_getElem_cons drop_length lookup_cons range'_succ range_eq_range' length_range mem_map pairwise_cons map_map getElem?_eq_getElem map_append nodup_nil getElem?_cons_succ getElem?_cons_zero length_nil getD_eq_getElem?_getD set_cons_succ set_cons_zero range_succ getElem_mem drop_zero filter_cons length_filter_le)
open Nat (lt_of_lt_of_le lt_irrefl ne_of_lt le_trans le_of_lt ne_of_gt le_refl zero_le lt_or_ge zero_add)
open Int (emod_nonneg)
open Array (length_toList getElem_toList)
open PySem.W (Frag)
open PySem.Heap (get?_push_of_some)
theorem byc{p:Prop}(h:¬p→False):p:=Classical.byContradiction h
namespace L2
open PySem PySem.Spec PyProof.Rows
theorem lnz1{α:Type _}{l:List α}(h:l.length=1):∃a,l=[a]:=List.length_eq_one_iff.mp h
theorem lnz2{α:Type _}{l:List α}(h:l.length=2):∃a b,l=[a,b]:=by
 match l,h with
 |[a,b],_=>exact⟨a,b,rfl⟩
theorem lnz3{α:Type _}{l:List α}(h:l.length=3):∃a b c,l=[a,b,c]:=by
 match l,h with
 |[a,b,c],_=>exact⟨a,b,c,rfl⟩
theorem lnz4{α:Type _}{l:List α}(h:l.length=4):∃a b c d,l=[a,b,c,d]:=by
 match l,h with
 |[a,b,c,d],_=>exact⟨a,b,c,d,rfl⟩
noncomputable abbrev Key:=Sum Int Str
noncomputable def za5:Key→Value→Bool
 |.inl k,v=>Value.isInt k v
 |.inr x,v=>Value.isStrOf x v
noncomputable def keyH(w:World):Key→Int
 |.inl k=>hashInt k
 |.inr x=>hashStr w x
theorem xl:∀{k:Key} {v:Value},za5 k v=true→(∃i t,k=Sum.inl i∧v=Value.int i t)∨(∃x t,k=Sum.inr x∧v=Value.str x t)
 |.inl i,v,h=>by
  obtain⟨t,e⟩:=Value.isInt_shape (k:=i) (v:=v) h
  exact .inl ⟨i,t,rfl,e⟩
 |.inr x,v,h=>by
  obtain⟨t,e⟩:=Value.isStrOf_shape (x:=x) (v:=v) h
  exact .inr ⟨x,t,rfl,e⟩
theorem zh6(a b:Int):decide ((Sum.inl a:Key)=Sum.inl b)=(a==b):=by
 by_cases e:a=b
 ·subst e;simp
 ·have h:¬ (Sum.inl a:Key)=Sum.inl b:=fun q=>e (Sum.inl.inj q)
  rw[decide_eq_false h]
  exact(beq_eq_false_iff_ne.mpr e).symm
theorem zh3(a b:Str):decide ((Sum.inr a:Key)=Sum.inr b)=decide (a=b):=by
 by_cases e:a=b
 ·subst e;simp
 ·have h:¬ (Sum.inr a:Key)=Sum.inr b:=fun q=>e (Sum.inr.inj q)
  rw[decide_eq_false h,decide_eq_false e]
theorem zh5(a:Int)(b:Str):decide ((Sum.inl a:Key)=Sum.inr b)=false:=decide_eq_false (fun q=>nomatch q)
theorem zh4(a:Str)(b:Int):decide ((Sum.inr a:Key)=Sum.inl b)=false:=decide_eq_false (fun q=>nomatch q)
noncomputable def WW(prog:Program)(w:World):PySem.KeyKind prog w Key where
 is:=za5
 hash:=keyH w
 inj:=fun v a b ha hb=>by
  rcases xl ha with ⟨i,t,rfl,rfl⟩|⟨x,t,rfl,rfl⟩
  ·rcases xl hb with ⟨j,u,rfl,e⟩|⟨y,u,rfl,e⟩
   ·injection e with e1 _;rw[e1]
   ·exact nomatch e
  ·rcases xl hb with ⟨j,u,rfl,e⟩|⟨y,u,rfl,e⟩
   ·exact nomatch e
   ·injection e with e1 _;rw[e1]
 byValue:=fun k v h=>by
  rcases xl h with ⟨i,t,rfl,rfl⟩|⟨x,t,rfl,rfl⟩ <;> rfl
 pyHash:=fun hv h=>by
  rcases xl hv with ⟨i,t,rfl,rfl⟩|⟨x,t,rfl,rfl⟩
  ·exact wpAny_pyHash_int h
  ·exact wpAny_pyHash_str h
 eqBool:=fun hu hv h=>by
  rcases xl hu with ⟨i,t,rfl,rfl⟩|⟨x,t,rfl,rfl⟩
  ·rcases xl hv with ⟨j,u,rfl,rfl⟩|⟨y,u,rfl,rfl⟩
   ·rw[zh6] at h;exact wpAny_eqBool_int h
   ·rw[zh5] at h;exact SeqAt.EqAt.int_str i t y u _ _ _ _ h
  ·rcases xl hv with ⟨j,u,rfl,rfl⟩|⟨y,u,rfl,rfl⟩
   ·rw[zh4] at h;exact SeqAt.EqAt.str_int x t j u _ _ _ _ h
   ·rw[zh3] at h;exact wpAny_eqBool_str h
 «strs»:=fun k x t v h=>by
  rcases xl h with ⟨i,u,rfl,e⟩|⟨y,u,rfl,e⟩
  ·exact nomatch e
  ·injection e with e1 _
   subst e1
   cases v <;> rfl
inductive V where
 | non|bl (b:Bool) | int (i:Int) | str (x:Str) | byt (b:Array UInt8) | flt (b:UInt64) | ref (a:Addr) | ty (n:String)
 deriving DecidableEq
noncomputable def RelV:V→Value→Prop
 |.non,u=>u=Value.none
 |.bl b,u=>u=Value.bool b
 |.int i,u=>∃t,u=Value.int i t
 |.str x,u=>∃t,u=Value.str x t
 |.byt b,u=>∃t,u=Value.bytes b t
 |.flt b,u=>∃t,u=Value.float b t
 |.ref a,u=>u=Value.ref a
 |.ty n,u=>u=Value.type n
noncomputable abbrev Vals:List V→List Value→Prop:=Paired RelV
theorem Vals.length{xs:List V}{us:List Value}(r:Vals xs us):xs.length=us.length:=Paired.length r
theorem Vals.get:∀{xs:List V} {us:List Value} {i:Nat} {x:V},Vals xs us→xs[i]?=some x→∃u,us[i]?=some u∧RelV x u
 |_,_,_,_,.nil,e=>by simp at e
 |_,_,0,_,.cons r _,e=>by simp at e;subst e;exact⟨_,rfl,r⟩
 |_,_,i+1,x,.cons _ t,e=>by
  obtain⟨u,h1,h2⟩:=Vals.get (i:=i) (x:=x) t (by simpa using e)
  exact⟨u,by simpa using h1,h2⟩
theorem Vals.set{x:V}{u:Value}(r:RelV x u):∀{xs:List V} {us:List Value} (i:Nat),Vals xs us→Vals (xs.set i x) (us.set i u)
 |_,_,_,.nil=>.nil
 |_,_,0,.cons _ t=>.cons r t
 |_,_,i+1,.cons q t=>.cons q (Vals.set r i t)
theorem Vals.append:∀{xs ys:List V} {us ws:List Value},Vals xs us→Vals ys ws→Vals (xs++ys) (us++ws)
 |_,_,_,_,.nil,s=>s
 |_,_,_,_,.cons r t,s=>.cons r (Vals.append t s)
theorem Vals.take:∀{xs:List V} {us:List Value} (n:Nat),Vals xs us→Vals (xs.take n) (us.take n)
 |_,_,0,_=>.nil
 |_,_,_+1,.nil=>.nil
 |_,_,n+1,.cons r t=>.cons r (Vals.take n t)
theorem Vals.drop:∀{xs:List V} {us:List Value} (n:Nat),Vals xs us→Vals (xs.drop n) (us.drop n)
 |_,_,0,r=>r
 |_,_,_+1,.nil=>.nil
 |_,_,n+1,.cons _ t=>Vals.drop n t
noncomputable def RelO:Option V→Option Value→Prop
 |some v,some u=>RelV v u
 |none,none=>True
 |_,_=>False
noncomputable def KV{κ:Type}:List (κ×V)→List (κ×Value)→Prop:=Paired fun (p:κ×V) (q:κ×Value)=>p.1=q.1∧RelV p.2 q.2
noncomputable def kV:Key→V
 |.inl i=>.int i
 |.inr x=>.str x
inductive HO where
 | lst (xs:List V)
 | tup (xs:List V)
 | dK (kvs:List (Key×V)) | dT (kvs:List (List Key×V))
 | set (S:Int→Bool) (n:Nat)
 | ins (C dx:Addr) (fs:List (Str×V))
 | own (x:Addr)
 | xd (fs:List (Str×V))
 | met (f x:Addr)
 | rng (lo hi:Int)
 | frz (o:Obj) (u:HO)
 | tbl (ps:Array Value)
 | ext (φ:Heap→Prop)
noncomputable abbrev Hp:=Addr→Option HO
noncomputable def upd(H:Hp)(a:Addr)(o:HO):Hp:=fun b=>if b=a then some o else H b
theorem zo{H:Hp}{a:Addr}{o:HO}:upd H a o a=some o:=by unfold upd;rw[if_pos rfl]
theorem zm{H:Hp}{a b:Addr}{o:HO}(h:b≠a):upd H a o b=H b:=by unfold upd;rw[if_neg h]
theorem zA{H:Hp}{a b:Addr}{o:HO}(h:H a=some o)(h':H b=none):a≠b:=by
 intro e;subst e;rw[h] at h';cases h'
section
variable(P:Program)(w:World)
noncomputable def ObjOk(H:Hp)(h:Heap)(a:Addr):HO→Prop
 |.lst xs=>xs.length≤sizeLine∧∃(its:List Value) (n:Nat),Vals xs its∧h.get? a=some { cls:=.type "list", data:=.seq its.toArray n }
 |.tup xs=>xs.length≤sizeLine∧∃its:List Value,Vals xs its∧IsTup h a its.toArray
 |.dK kvs=>kvs.length≤sizeLine∧(a==sysModules)=false∧∃vs,KV kvs vs∧h.DictOf (WW P w) a vs
 |.dT kvs=>kvs.length≤sizeLine∧(a==sysModules)=false∧∃xs:List (List Key×Addr×Value),
   Paired (fun (p:List Key×V) (q:List Key×Addr×Value)=>p.1=q.1∧H q.2.1=some (.tup (p.1.map kV))∧RelV p.2 q.2.2) kvs xs ∧
   ∃o es ep,h.get? a=some o∧o.ExactDict∧o.data=.dict es ep∧es.toList=xs.map (entryOfKey (tupleKind (WW P w)))∧(xs.map (·.1)).Nodup
 |.set S n=>h.SetOf (intKind P w) a S n
 |.ins C dx fs=>H dx=some (.own a)∧fs.length≤1000∧dx≠a∧h.get? a=some (instObj C dx) ∧
   ∃mA,h.Ns1 dx mA∧(∀f,RelO (fs.lookup f) (mA f))∧PySem.Within mA (fs.map (·.1))
 |.own _=>∃o,h.get? a=some o
 |.xd fs=>∃mA,h.Ns1 a mA∧∀f,RelO (fs.lookup f) (mA f)
 |.rng lo hi=>∃t u v,h.get? a=some { cls:=.type "range", data:=.fields #[.int lo t,.int hi u,.int 1 v] }
 |.frz o u=>h.get? a=some o∧ObjOk H h a u
 |.tbl ps=>h.get? a=some { cls:=.none,data:=.fields ps }
 |.met f x=>h.get? a=some (methodObj (.ref f) (.ref x))
 |.ext φ=>φ h∧(∃o,h.get? a=some o)∧∀h1 h2:Heap,φ h1→(∀o,h1.get? a=some o→h2.get? a=some o)→φ h2
noncomputable def HOk(H:Hp)(h:Heap):Prop:=∀a o,H a=some o→ObjOk P w H h a o
end
section
variable{P:Program}{w:World}{H H':Hp}{h h':Heap}{a:Addr}{o:HO}
theorem ObjOk.lt(x:ObjOk P w H h a o):a<h.objs.size:=by
 cases o with
 |lst xs=>obtain⟨_,_,_,_,e⟩:=x;exact Heap.lt_size e
 |tup xs=>obtain⟨_,_,_,p⟩:=x;exact p.lt
 |dK kvs=>obtain⟨_,_,_,_,o,_,_,e,_⟩:=x;exact Heap.lt_size e
 |dT kvs=>obtain⟨_,_,_,_,o,_,_,e,_⟩:=x;exact Heap.lt_size e
 |set S n=>obtain⟨o,_,_,_,e,_⟩:=x;exact Heap.lt_size e
 |ins C dx fs=>obtain⟨_,_,_,e,_⟩:=x;exact Heap.lt_size e
 |own y=>obtain⟨_,e⟩:=x;exact Heap.lt_size e
 |xd fs=>obtain⟨_,⟨_,_,_,e,_⟩,_⟩:=x;exact Heap.lt_size e
 |rng lo hi=>obtain⟨_,_,_,e⟩:=x;exact Heap.lt_size e
 |frz ob u=>obtain⟨e,_⟩:=x;exact Heap.lt_size e
 |tbl ps=>exact Heap.lt_size (show h.get? a=some _ from x)
 |met f y=>exact Heap.lt_size (show h.get? a=some _ from x)
 |ext φ=>obtain⟨_,⟨_,e⟩,_⟩:=x;exact Heap.lt_size e
theorem Paired.mapP{α β:Type}{F G:α→β→Prop}:∀{l₁:List α} {l₂:List β},Paired F l₁ l₂→(∀a b,F a b→G a b)→Paired G l₁ l₂
 |_,_,.nil,_=>.nil
 |_,_,.cons r t,f=>.cons (f _ _ r) (Paired.mapP t f)
theorem ObjOk.stay(x:ObjOk P w H h a o)(k:∀b u,(b=a∨H b=some (.own a))→h.get? b=some u→h'.get? b=some u)
  (ho:∀b,H b=some (.own a)→H' b=some (.own a)) (ht:∀b xs,H b=some (.tup xs)→H' b=some (.tup xs)):ObjOk P w H' h' a o:=by
 induction o with
 |lst xs=>obtain⟨z,its,n,r,e⟩:=x;exact⟨z,its,n,r,k _ _ (.inl rfl) e⟩
 |tup xs=>obtain⟨z,its,r,ob,e,c⟩:=x;exact⟨z,its,r,ob,k _ _ (.inl rfl) e,c⟩
 |dK kvs=>obtain⟨z,y,vs,r,ob,es,ep,e,c⟩:=x;exact⟨z,y,vs,r,ob,es,ep,k _ _ (.inl rfl) e,c⟩
 |dT kvs=>
  refine byc fun zG_=>?_
  obtain⟨z,y,xs,r,ob,es,ep,e,c⟩:=x
  refine zG_ ?_
  exact⟨z,y,xs,Paired.mapP r fun p q z=>⟨z.1,ht _ _ z.2.1,z.2.2⟩,ob,es,ep,k _ _ (.inl rfl) e,c⟩
 |set S n=>obtain⟨ob,es,ep,t,e,c⟩:=x;exact⟨ob,es,ep,t,k _ _ (.inl rfl) e,c⟩
 |ins C dx fs=>
  refine byc fun zG_=>?_
  obtain⟨d,z,ne,e,mA,⟨od,es,ep,e2,c⟩,r⟩:=x
  refine zG_ ?_
  exact⟨ho _ d,z,ne,k _ _ (.inl rfl) e,mA,⟨od,es,ep,k _ _ (.inr d) e2,c⟩,r⟩
 |own y=>obtain⟨ob,e⟩:=x;exact⟨ob,k _ _ (.inl rfl) e⟩
 |xd fs=>obtain⟨mA,⟨od,es,ep,e,c⟩,r⟩:=x;exact⟨mA,⟨od,es,ep,k _ _ (.inl rfl) e,c⟩,r⟩
 |rng lo hi=>obtain⟨t,u,v,e⟩:=x;exact⟨t,u,v,k _ _ (.inl rfl) e⟩
 |frz ob u ih=>obtain⟨e,q⟩:=x;exact⟨k _ _ (.inl rfl) e,ih q⟩
 |tbl ps=>
  have e:h.get? a=some { cls:=.none,data:=.fields ps }:=x
  show h'.get? a=some { cls:=.none,data:=.fields ps }
  exact k a _ (.inl rfl) e
 |met f y=>
  have e:h.get? a=some (methodObj (.ref f) (.ref y)):=x
  show h'.get? a=some (methodObj (.ref f) (.ref y))
  exact k a _ (.inl rfl) e
 |ext φ=>obtain⟨p,⟨o,e⟩,st⟩:=x;exact⟨st _ _ p fun o q=>k _ _ (.inl rfl) q,⟨o,k _ _ (.inl rfl) e⟩,st⟩
theorem HOk.lt(x:HOk P w H h)(e:H a=some o):a<h.objs.size:=(x a o e).lt
theorem HOk.fresh(x:HOk P w H h)(e:h.objs.size≤a):H a=none:=by
 cases q:H a with
 |none=>rfl
 |some u=>exact absurd (lt_of_lt_of_le (x.lt q) e) (lt_irrefl _)
theorem HOk.kept(x:HOk P w H h)(k:∀b u,h.get? b=some u→h'.get? b=some u):HOk P w H h':=fun a o e=>
 (x a o e).stay (fun b u _ q=>k b u q) (fun _ q=>q) fun _ _ q=>q
theorem HOk.laid(x:HOk P w H h)(k:∀b u,h.get? b=some u→h'.get? b=some u)(hp:h.objs.size≤a)(new:ObjOk P w (upd H a o) h' a o):HOk P w (upd H a o) h':=fun b u e=>by
 have hn:=x.fresh hp
 by_cases hb:b=a
 ·subst hb;rw[zo] at e;cases e;exact new
 ·rw[zm hb] at e
  exact(x b u e).stay (fun c v _ q=>k c v q) (fun c q=>by rw[zm (zA q hn)];exact q) fun c xs q=>by rw[zm (zA q hn)];exact q
end
noncomputable def Rd(H:Hp)(a:Addr)(u:HO):Prop:=H a=some u∨∃o,H a=some (.frz o u)
theorem Rd.ok{P:Program}{w:World}{H:Hp}{h:Heap}{a:Addr}{u:HO}(r:Rd H a u)(x:HOk P w H h):ObjOk P w H h a u:=by
 rcases r with r|⟨o,r⟩
 ·exact x a u r
 ·obtain⟨_,q⟩:=x a _ r
  exact q
noncomputable def Mut:Option HO→Prop
 | some (.lst _)=>True
 | some (.dK _)=>True
 | some (.dT _)=>True
 | some (.set _ _)=>True
 | some (.ins _ _ _)=>True
 | some (.ext _)=>True
 |_=>False
section
variable{P:Program}{w:World}{H:Hp}{h h':Heap}{x e:Addr}{o':HO}
theorem HOk.write(ok:HOk P w H h)(mu:Mut (H x))(he:e=x∨H e=some (.own x))(k:∀b u,b≠e→h.get? b=some u→h'.get? b=some u)(heo:∃u,h'.get? e=some u)
  (new:ObjOk P w (upd H x o') h' x o'):HOk P w (upd H x o') h':=fun b u q=>by
 have nown:∀c y,H c=some (.own y)→c≠x:=fun c y r z=>by subst z;rw[r] at mu;exact mu
 have ntup:∀c xs,H c=some (.tup xs)→c≠x:=fun c xs r z=>by subst z;rw[r] at mu;exact mu
 by_cases hb:b=x
 ·subst hb;rw[zo] at q;cases q;exact new
 ·rw[zm hb] at q
  by_cases hbe:b=e
  ·have q':H b=some (.own x):=by
    rcases he with z|z
    ·exact absurd (hbe.trans z) hb
    ·rw[hbe];exact z
   rw[q] at q';cases q'
   obtain⟨v,hv⟩:=heo
   exact⟨v,by rw[hbe];exact hv⟩
  ·refine(ok b u q).stay (fun c v hc r=>k c v ?_ r) (fun c r=>by rw[zm (nown c b r)];exact r) fun c xs r=>by rw[zm (ntup c xs r)];exact r
   rcases hc with rfl|hc
   ·exact hbe
   ·rintro rfl
    rcases he with z|z
    ·exact nown c b hc z
    ·rw[hc] at z;cases z;exact hb rfl
end
structure Un(fs ex:List Addr)(H H':Hp)(h h':Heap):Prop where
 keep:∀b o,h.get? b=some o→H b=none→b∉fs→b∉ex→h'.get? b=some o
 slot:∀b o,h.get? b=some o→H b=none→b∈fs→b∉ex→∃sl,h'.get? b=some { o with slots:=sl }
 free:∀b o,h.get? b=some o→H b=none→b∉ex→H' b=none
 there:∀b o,h.get? b=some o→b∉ex→∃o',h'.get? b=some o'
 tups:∀b xs,H b=some (.tup xs)→H' b=some (.tup xs)
 frzs:∀b o u,H b=some (.frz o u)→H' b=some (.frz o u)
 tbls:∀b ps,H b=some (.tbl ps)→∃more,H' b=some (.tbl (ps++more))
section
variable{fs fs' ex ex':List Addr}{H H1 H2:Hp}{h h1 h2 h':Heap}{a x e:Addr}{o:HO}
theorem Un.any(u:Un fs ex H H1 h h1){b:Addr}{ob:Obj}(q:h.get? b=some ob)(n:H b=none)(hx:b∉ex):∃sl,h1.get? b=some { ob with slots:=sl }:=by
 by_cases hb:b∈fs
 ·exact u.slot b ob q n hb hx
 ·exact⟨ob.slots,u.keep b ob q n hb hx⟩
theorem Un.kept(k:∀b u,h.get? b=some u→h'.get? b=some u):Un fs ex H H h h':=
 ⟨fun b ob q _ _ _=>k b ob q,fun b ob q _ _ _=>⟨ob.slots,k b ob q⟩,fun _ _ _ n _=>n,fun b ob q _=>⟨ob,k b ob q⟩,fun _ _ q=>q,fun _ _ _ q=>q,fun _ ps q=>⟨#[],by rw[q];simp⟩⟩
theorem Un.refl:Un fs ex H H h h:=Un.kept fun _ _ q=>q
theorem Un.laid(k:∀b u,h.get? b=some u→h'.get? b=some u)(hp:h.objs.size≤a)(hn:H a=none):Un fs ex H (upd H a o) h h' where
 keep:=fun b u q _ _ _=>k b u q
 slot:=fun b u q _ _ _=>⟨u.slots,k b u q⟩
 free:=fun b u q n _=>by rw[zm (ne_of_lt (lt_of_lt_of_le (Heap.lt_size q) hp))];exact n
 there:=fun b u q _=>⟨u,k b u q⟩
 tups:=fun b xs q=>by rw[zm (zA q hn)];exact q
 frzs:=fun b u xs q=>by rw[zm (zA q hn)];exact q
 tbls:=fun b ps q=>⟨#[],by rw[zm (zA q hn),q];simp⟩
theorem Un.write(mu:Mut (H x))(he:e=x∨H e=some (.own x))(k:∀b u,b≠e→h.get? b=some u→h'.get? b=some u)(heo:∃u,h'.get? e=some u):Un fs ex H (upd H x o) h h':=by
 have hx:∀b,H b=none→b≠x:=fun b n z=>by subst z;rw[n] at mu;exact mu
 have hb:∀b,H b=none→b≠e:=fun b n z=>by
  subst z
  rcases he with r|r
  ·exact hx b n r
  ·rw[n] at r;cases r
 have hm:∀b u,H b=some u→¬ Mut (some u)→b≠x:=fun b u q nm z=>by subst z;rw[q] at mu;exact nm mu
 refine⟨fun b u q n _ _=>k b u (hb b n) q,fun b u q n _ _=>⟨u.slots,k b u (hb b n) q⟩,fun b u q n _=>by rw[zm (hx b n)];exact n,fun b u q _=>?_,
  fun b xs q=>by rw[zm (hm b _ q fun z=>z)];exact q,fun b u xs q=>by rw[zm (hm b _ q fun z=>z)];exact q,fun b ps q=>⟨#[],by rw[zm (hm b _ q fun z=>z),q];simp⟩⟩
 by_cases hbe:b=e
 ·subst hbe;exact heo
 ·exact⟨u,k b u hbe q⟩
end
noncomputable def trk(h:Heap)(H:Hp):List Addr:=(List.range h.objs.size).filter fun a=>(H a).isSome
noncomputable def XN(h:Heap)(H:Hp):Heap:=PySem.W.hideAll h (trk h H)
theorem Q6(h:Heap)(H:Hp):(XN h H).objs.size=h.objs.size:=PySem.W.hideAll_size _ _
theorem MS{h:Heap}{H:Hp}{b:Addr}{o:Obj}(e:h.get? b=some o)(n:H b=none):(XN h H).get? b=some o:=
 PySem.W.hideAll_get _ e fun hm=>by
  have q:(H b).isSome=true:=(mem_filter.mp hm).2
  rw[n] at q;simp at q
theorem Lj{h:Heap}{H:Hp}{b:Addr}{o:Obj}(e:(XN h H).get? b=some o):h.get? b=some o∧H b=none:=by
 have e':h.get? b=some o:=PySem.W.of_hideAll (trk h H) e
 refine⟨e',?_⟩
 cases q:H b with
 |none=>rfl
 |some x=>
  have hm:b∈trk h H:=mem_filter.mpr ⟨mem_range.mpr (Heap.lt_size e'),by simp[q]⟩
  have z:(XN h H).get? b=none:=PySem.W.hideAll_none (trk h H) hm
  rw[z] at e;cases e
noncomputable def LZ(g h:Heap)(L:Addr):List (Addr×Obj):=(List.range h.objs.size).filterMap fun a=>if a=L∨(g.get? a).isSome=true then none else (h.get? a).map fun o=>(a,o)
noncomputable def rest(g h:Heap)(L d:Addr):List (Addr×Obj):=(LZ g h L).filter fun p=>decide (p.1≠d)
structure Mod(K:Frag)(mg:Str→Option Value)(base:Heap):Prop where
 kin:K.In base
 glob:base.Ns mainGlobals mg
 blt:∃mb,base.Ns builtinsNs mb∧∀x:Str,x ≠ "__name__" → mb x=bootBuiltins x
 nolimit:base.NoLimit
structure Cx where
 prog:Program
 w:World
 K:Frag
 mg:Str→Option Value
 base:Heap
 A:Around
 N:List Str
 s₀:Shared
 H₀:Hp
 env:Env
 outer:List Env
 stack:List Env
 ex:List Addr
 fn:Str→Bool
 calm:Bool
 pn:List (Addr×Obj)
 xe:Value→Shared→Prop
noncomputable def frs(l:List Env):List Addr:=l.filterMap (·.frame)
noncomputable abbrev Cx.fs(X:Cx):List Addr:=frs X.outer
noncomputable def Vis(sc:Scope)(x:Str):Prop:=sc.names.lookup x=some .local∨sc.names.lookup x=some .cell∨sc.names.lookup x=some .free
noncomputable def Loc(sc:Scope)(x:Str):Prop:=sc.names.lookup x=some .local∨sc.names.lookup x=some .cell
noncomputable def Look(env:Env)(h:Heap)(m:Str→Option Value)(x:Str)(u:Value):Prop:=
 (env.kindOf x=some .local∧m x=some u)∨((env.kindOf x=some .cell∨env.kindOf x=some .free)∧∃c,env.cells.lookup x=some c∧h.IsCell c (some u))
structure Cx.Ok(X:Cx):Prop where
 mod:Mod X.K X.mg X.base
 kind:X.env.scope.kind=.function
 glob:X.env.globals=mainGlobals
 blt:X.env.builtins=builtinsNs
 above:X.s₀.heap.objs.size≤X.env.locals
 inj:∀x y c,X.env.cells.lookup x=some c→X.env.cells.lookup y=some c→x=y
 has:∀x,(X.env.kindOf x=some .cell∨X.env.kindOf x=some .free)→∃c,X.env.cells.lookup x=some c
 cab:∀x c,X.fn x=true→X.env.cells.lookup x=some c→X.s₀.heap.objs.size≤c
 hd:X.calm=true→X.A.handled=none
 frames:X.A.frames=some X.stack
 stk:X.stack=X.outer∨(X.stack=X.env::X.outer∧X.env.frame=some X.env.locals)
 exf:∀b∈X.ex,b≠X.env.locals∧∀x c,X.env.cells.lookup x=some c→c≠b
 bs:∀b o,X.base.get? b=some o→X.s₀.heap.get? b=some o∧X.H₀ b=none
 bsz:X.base.objs.size≤X.s₀.heap.objs.size
 noex:∀b o,X.base.get? b=some o→b∉X.ex
 exfs:∀b∈X.ex,b∉X.fs
 funs:X.s₀.heap.FunFrames X.base X.outer
 frf:∀b∈X.fs,X.H₀ b=none
structure Inv(X:Cx)(pins:List (Addr×Obj))(σ:List (Option V))(H:Hp)(s:Shared):Prop where
 ok:X.Ok
 os:s.os=X.s₀.os
 bare:AllBare s.gens
 base:Un X.fs X.ex X.H₀ H X.s₀.heap s.heap
 loc:∃m,s.heap.Ns X.env.locals m∧∀(i:Nat) (x:Str) (v:V),X.N[i]?=some x→σ[i]?=some (some v)→Vis X.env.scope x→∃u,RelV v u∧Look X.env s.heap m x u
 cell:∀x c,X.env.cells.lookup x=some c→∃v,s.heap.IsCell c v
 free:H X.env.locals=none
 freeC:∀x c,X.env.cells.lookup x=some c→H c=none
 pin:∀p∈X.pn++pins,s.heap.get? p.1=some p.2∧H p.1=none∧p.1≠X.env.locals∧p.1∉X.fs∧∀v,p.2.data≠.cell v
 hok:HOk X.prog X.w H s.heap
 len:σ.length=X.N.length
section
variable{X:Cx}{pins:List (Addr×Obj)}{σ:List (Option V)}{H H':Hp}{s:Shared}{h':Heap}
theorem Cx.Ok.nofr(ok:X.Ok){b:Addr}{o:Obj}(e:X.base.get? b=some o):b∉X.fs:=fun hb=>by
 have:=(ok.funs.mem hb).1
 rw[e] at this;cases this
theorem Inv.bs(I:Inv X pins σ H s):∀b o,X.base.get? b=some o→s.heap.get? b=some o∧H b=none:=fun b o e=>
 ⟨I.base.keep b o (I.ok.bs b o e).1 (I.ok.bs b o e).2 (I.ok.nofr e) (I.ok.noex b o e),I.base.free b o (I.ok.bs b o e).1 (I.ok.bs b o e).2 (I.ok.noex b o e)⟩
theorem Inv.bk(I:Inv X pins σ H s):∀b o,X.base.get? b=some o→s.heap.get? b=some o:=fun b o e=>(I.bs b o e).1
theorem Inv.mod(I:Inv X pins σ H s):Mod X.K X.mg X.base:=I.ok.mod
theorem Inv.kIn(I:Inv X pins σ H s):X.K.In s.heap:=I.ok.mod.kin.keeps I.bk
theorem Inv.lt(I:Inv X pins σ H s):X.env.locals<s.heap.objs.size:=let ⟨_,hn,_⟩:=I.loc;hn.lt
theorem Inv.sz(I:Inv X pins σ H s):X.s₀.heap.objs.size≤s.heap.objs.size:=le_trans I.ok.above (le_of_lt I.lt)
theorem Inv.nofs(I:Inv X pins σ H s){a:Addr}(h:s.heap.objs.size≤a):a∉X.fs:=fun hb=>by
 refine byc fun zG_=>?_
 obtain⟨_,o,ho,_⟩:=I.ok.funs.mem hb
 refine zG_ ?_
 exact absurd (lt_of_lt_of_le (Heap.lt_size ho) (le_trans I.sz h)) (lt_irrefl _)
theorem Inv.cne(I:Inv X pins σ H s):∀x c,X.env.cells.lookup x=some c→c≠X.env.locals:=fun x c e z=>by
 refine byc fun zG_=>?_
 obtain⟨v,o,ho,hd⟩:=I.cell x c e
 obtain⟨m,⟨o',es,ep,ho',hd',_⟩,_⟩:=I.loc
 refine zG_ ?_
 rw[z,ho'] at ho;cases ho;rw[hd'] at hd;cases hd
theorem Inv.funs(I:Inv X pins σ H s):s.heap.FunFrames X.base X.outer:=by
 have all:∀(l:List Env),(∀b∈frs l,b∈X.fs)→X.s₀.heap.FunFrames X.base l→s.heap.FunFrames X.base l:=by
  intro l
  induction l with
  |nil=>intro _ _;trivial
  |cons env r ih=>
   intro hs hl
   refine byc fun zG_=>?_
   obtain⟨hk,⟨L,o,hf,hn,ho,hd⟩,hr⟩:=hl
   have hL:L∈X.fs:=hs L (by unfold frs;rw[List.filterMap_cons,hf];exact mem_cons_self)
   obtain⟨sl,e⟩:=I.base.slot L o ho (I.ok.frf L hL) hL fun z=>I.ok.exfs L z hL
   refine zG_ ?_
   exact⟨hk,⟨L,_,hf,hn,e,hd⟩,ih (fun b hb=>hs b (by unfold frs;rw[List.filterMap_cons,hf];exact mem_cons_of_mem _ hb)) hr⟩
 exact all X.outer (fun _ hb=>hb) I.ok.funs
theorem Inv.stack(I:Inv X pins σ H s):s.heap.FunFrames X.base X.stack:=by
 rcases I.ok.stk with e|⟨e,hf⟩
 ·rw[e];exact I.funs
 ·rw[e]
  obtain⟨m,hn,_⟩:=I.loc
  refine .cons (by rw[I.ok.kind];decide) hf hn ?_ I.funs
  exact Heap.get?_none_of_le (le_trans I.ok.bsz I.ok.above)
theorem Inv.stkSub(I:Inv X pins σ H s):∀b∈frs X.stack,b∈X.env.locals::X.fs:=fun b hb=>by
 rcases I.ok.stk with e|⟨e,hf⟩
 ·rw[e] at hb;exact mem_cons_of_mem _ hb
 ·rw[e] at hb
  unfold frs at hb
  rw[List.filterMap_cons,hf] at hb
  exact hb
theorem Inv.stkFree(I:Inv X pins σ H s):∀b∈frs X.stack,H b=none:=fun b hb=>by
 rcases mem_cons.mp (I.stkSub b hb) with e|hb
 ·rw[e];exact I.free
 ·refine byc fun zG_=>?_
  obtain⟨_,o,ho,_⟩:=I.ok.funs.mem hb
  refine zG_ ?_
  exact I.base.free b o ho (I.ok.frf b hb) fun z=>I.ok.exfs b z hb
theorem Inv.step{g':Array GenState}{t':Nat}{d':Drawn}{ch:List Addr}(I:Inv X pins σ H s)
  (hch:∀b∈ch,(b∈X.ex∨X.s₀.heap.objs.size≤b)∧b≠X.env.locals∧(∀x c,X.env.cells.lookup x=some c→c≠b)∧∀p∈X.pn++pins,p.1≠b)
  (keep:∀b o,b≠X.env.locals→b∉X.fs→b∉ch→s.heap.get? b=some o→H b=none→h'.get? b=some o)
  (slot:∀b o,b≠X.env.locals→b∈X.fs→b∉ch→s.heap.get? b=some o→H b=none→∃sl,h'.get? b=some { o with slots:=sl }) (free:∀b o,b∉ch→s.heap.get? b=some o→H b=none→H' b=none)
  (there:∀b o,b∉ch→s.heap.get? b=some o→∃o',h'.get? b=some o')
  (tups:∀b xs,H b=some (.tup xs)→H' b=some (.tup xs)) (frzs:∀b o u,H b=some (.frz o u)→H' b=some (.frz o u)) (tbls:∀b ps,H b=some (.tbl ps)→∃more,H' b=some (.tbl (ps++more)))
  (ns:∀m,s.heap.Ns X.env.locals m→h'.Ns X.env.locals m) (hok:HOk X.prog X.w H' h') (hg:AllBare g') :
  Inv X pins σ H' { s with heap:=h',gens:=g',drawn:=d',toks:=t' }:=by
 have neL:∀b o,X.s₀.heap.get? b=some o→b≠X.env.locals:=fun b o e=>ne_of_lt (lt_of_lt_of_le (Heap.lt_size e) I.ok.above)
 have neC:∀b o,X.s₀.heap.get? b=some o→b∉X.ex→b∉ch:=fun b o e hx hb=>by
  rcases (hch b hb).1 with z|z
  ·exact hx z
  ·exact absurd (lt_of_lt_of_le (Heap.lt_size e) z) (lt_irrefl _)
 have cellK:∀x c,X.env.cells.lookup x=some c→∀v,s.heap.IsCell c v→h'.IsCell c v:=fun x c e v z_=>by
  obtain⟨o,ho,hd⟩:=z_
  have nch:c∉ch:=fun z=>(hch c z).2.2.1 x c e rfl
  by_cases hc:c∈X.fs
  ·obtain⟨sl,q⟩:=slot c o (I.cne x c e) hc nch ho (I.freeC x c e)
   exact⟨_,q,hd⟩
  ·exact⟨o,keep c o (I.cne x c e) hc nch ho (I.freeC x c e),hd⟩
 refine⟨I.ok,I.os,hg,⟨fun b o e n hb hx=>?_,fun b o e n hb hx=>?_,fun b o e n hx=>?_,fun b o e hx=>?_,fun b xs e=>tups b xs (I.base.tups b xs e),fun b o xs e=>frzs b o xs (I.base.frzs b o xs e),fun b ps e=>?_⟩,?_,fun x c e=>?_,?_,fun x c e=>?_,fun p hp=>?_,hok,I.len⟩
 ·exact keep b o (neL b o e) hb (neC b o e hx) (I.base.keep b o e n hb hx) (I.base.free b o e n hx)
 ·obtain⟨sl,e1⟩:=I.base.slot b o e n hb hx
  obtain⟨sl',e2⟩:=slot b _ (neL b o e) hb (neC b o e hx) e1 (I.base.free b o e n hx)
  exact⟨sl',e2⟩
 ·obtain⟨o',e1⟩:=I.base.there b o e hx
  exact free b o' (neC b o e hx) e1 (I.base.free b o e n hx)
 ·obtain⟨o',e1⟩:=I.base.there b o e hx
  exact there b o' (neC b o e hx) e1
 ·obtain⟨m1,e1⟩:=I.base.tbls b ps e
  obtain⟨m2,e2⟩:=tbls b _ e1
  exact⟨m1++m2,by rw[e2,Array.append_assoc]⟩
 ·obtain⟨m,hn,hl⟩:=I.loc
  refine⟨m,ns m hn,fun i x v e1 e2 e3=>?_⟩
  obtain⟨u,r,l⟩:=hl i x v e1 e2 e3
  refine⟨u,r,?_⟩
  rcases l with l|⟨k,c,e,z⟩
  ·exact .inl l
  ·exact .inr ⟨k,c,e,cellK x c e _ z⟩
 ·obtain⟨v,z⟩:=I.cell x c e
  exact⟨v,cellK x c e v z⟩
 ·refine byc fun zG_=>?_
  obtain⟨m,⟨o,_,_,ho,_⟩,_⟩:=I.loc
  refine zG_ ?_
  exact free _ o (fun z=>(hch _ z).2.1 rfl) ho I.free
 ·refine byc fun zG_=>?_
  obtain⟨v,o,ho,hd⟩:=I.cell x c e
  refine zG_ ?_
  exact free c o (fun z=>(hch c z).2.2.1 x c e rfl) ho (I.freeC x c e)
 ·refine byc fun zG_=>?_
  obtain⟨e,n,ne,nf,d⟩:=I.pin p hp
  refine zG_ ?_
  have nch:p.1∉ch:=fun z=>(hch p.1 z).2.2.2 p hp rfl
  exact⟨keep p.1 p.2 ne nf nch e n,free p.1 p.2 nch e n,ne,nf,d⟩
theorem Inv.un{t':Nat}(I:Inv X pins σ H s)(u:Un X.fs [] H H' s.heap h')(hok:HOk X.prog X.w H' h'):Inv X pins σ H' { s with heap:=h',toks:=t' }:=by
 refine byc fun zG_=>?_
 obtain⟨m,⟨o,es,ep,ho,r⟩,_⟩:=id I.loc
 obtain⟨sl,hL⟩:=u.any ho I.free (by simp)
 refine zG_ ?_
 exact I.step (g':=s.gens) (d':=s.drawn) (ch:=[]) (fun _ z=>nomatch z) (fun b o _ hb _ e n=>u.keep b o e n hb (by simp)) (fun b o _ hb _ e n=>u.slot b o e n hb (by simp)) (fun b o _ e n=>u.free b o e n (by simp)) (fun b o _ e=>u.there b o e (by simp)) u.tups u.frzs u.tbls (fun m' hm=>by
  refine byc fun zG_=>?_
  obtain⟨o',es',ep',ho',r'⟩:=hm
  refine zG_ ?_
  rw[ho] at ho';cases ho'
  exact⟨_,es',ep',hL,r'⟩) hok I.bare
theorem Inv.call{g':Array GenState}{t':Nat}{d':Drawn}{ch:List Addr}(I:Inv X pins σ H s)(u:Un (frs X.stack) ch H H' s.heap h')(hok:HOk X.prog X.w H' h')(hg:AllBare g')
  (hch:∀b∈ch,(b∈X.ex∨X.s₀.heap.objs.size≤b)∧b≠X.env.locals∧(∀x c,X.env.cells.lookup x=some c→c≠b)∧∀p∈X.pn++pins,p.1≠b) :
  Inv X pins σ H' { s with heap:=h',gens:=g',drawn:=d',toks:=t' }:=by
 refine byc fun zG_=>?_
 obtain⟨m,⟨o,es,ep,ho,r⟩,_⟩:=id I.loc
 obtain⟨sl,hL⟩:=u.any ho I.free fun z=>(hch _ z).2.1 rfl
 refine zG_ ?_
 exact I.step (ch:=ch) hch (fun b o hL hb hc e n=>u.keep b o e n (fun z=>(mem_cons.mp (I.stkSub b z)).elim hL hb) hc) (fun b o _ _ hc e n=>u.any e n hc) (fun b o hc e n=>u.free b o e n hc) (fun b o hc e=>u.there b o e hc) u.tups u.frzs u.tbls (fun m' hm=>by
  refine byc fun zG_=>?_
  obtain⟨o',es',ep',ho',r'⟩:=hm
  refine zG_ ?_
  rw[ho] at ho';cases ho'
  exact⟨_,es',ep',hL,r'⟩) hok hg
theorem Inv.turned{t':Nat}{it:Addr}(I:Inv X pins σ H s)(k:∀b o,b≠it→s.heap.get? b=some o→h'.get? b=some o)(hn:H it=none)(hL:it≠X.env.locals)
  (h1:it∈X.ex∨X.s₀.heap.objs.size≤it) (h2:∀x c,X.env.cells.lookup x=some c→c≠it) (h3:∀p∈X.pn++pins,p.1≠it):Inv X pins σ H { s with heap:=h',toks:=t' }:=by
 have nit:∀b u,H b=some u→b≠it:=fun b u e z=>by rw[z,hn] at e;cases e
 refine I.step (g':=s.gens) (d':=s.drawn) (ch:=[it]) (fun b hb=>?_) (fun b o _ _ hc e _=>k b o (fun z=>hc (by simp[z])) e) (fun b o _ _ hc e _=>⟨o.slots,k b o (fun z=>hc (by simp[z])) e⟩) (fun _ _ _ _ n=>n)
  (fun b o hc e=>⟨o,k b o (fun z=>hc (by simp[z])) e⟩) (fun _ _ e=>e) (fun _ _ _ e=>e) (fun b ps e=>⟨#[],by rw[e];simp⟩) (fun m hm=>?_) (fun b u e=>?_) I.bare
 ·have e:b=it:=by simpa using hb
  subst e
  exact⟨h1,hL,h2,h3⟩
 ·refine byc fun zG_=>?_
  obtain⟨o,es,ep,ho,r⟩:=hm
  refine zG_ ?_
  exact⟨o,es,ep,k _ o (Ne.symm hL) ho,r⟩
 ·refine(I.hok b u e).stay (fun c v hc q=>k c v ?_ q) (fun _ q=>q) fun _ _ q=>q
  rcases hc with z|z
  ·rw[z];exact nit b u e
  ·exact nit c _ z
theorem Inv.tok(I:Inv X pins σ H s)(t:Nat):Inv X pins σ H { s with toks:=t }:=I.un (h':=s.heap) (t':=t) Un.refl I.hok
theorem Inv.kept{t':Nat}(I:Inv X pins σ H s)(k:∀b u,s.heap.get? b=some u→h'.get? b=some u):Inv X pins σ H { s with heap:=h',toks:=t' }:=I.un (Un.kept k) (I.hok.kept k)
theorem Inv.laid{a:Addr}{o:HO}{t':Nat}(I:Inv X pins σ H s)(k:∀b u,s.heap.get? b=some u→h'.get? b=some u)(hp:s.heap.objs.size≤a)(new:ObjOk X.prog X.w (upd H a o) h' a o) :
  Inv X pins σ (upd H a o) { s with heap:=h',toks:=t' }:=I.un (Un.laid k hp (I.hok.fresh hp)) (I.hok.laid k hp new)
theorem Inv.write{x e:Addr}{o:HO}{t':Nat}(I:Inv X pins σ H s)(mu:Mut (H x))(he:e=x∨H e=some (.own x))(k:∀b u,b≠e→s.heap.get? b=some u→h'.get? b=some u)(heo:∃u,h'.get? e=some u)
  (new:ObjOk X.prog X.w (upd H x o) h' x o):Inv X pins σ (upd H x o) { s with heap:=h',toks:=t' }:=I.un (Un.write mu he k heo) (I.hok.write mu he k heo new)
theorem Inv.pins_of{pins':List (Addr×Obj)}(I:Inv X pins σ H s)(h:∀p∈pins',s.heap.get? p.1=some p.2∧H p.1=none∧p.1≠X.env.locals∧p.1∉X.fs∧∀v,p.2.data≠.cell v):Inv X pins' σ H s:=
 ⟨I.ok,I.os,I.bare,I.base,I.loc,I.cell,I.free,I.freeC,fun p hp=>(mem_append.mp hp).elim (fun z=>I.pin p (mem_append_left _ z)) (h p),I.hok,I.len⟩
theorem VJ{N:List Str}(hN:N.Nodup){i j:Nat}{x:Str}(a:N[i]?=some x)(b:N[j]?=some x):i=j:=by
 obtain⟨h1,e1⟩:=List.getElem?_eq_some_iff.mp a
 obtain⟨h2,e2⟩:=List.getElem?_eq_some_iff.mp b
 exact(List.getElem_inj hN).mp (e1.trans e2.symm)
theorem XW{M:Model}{A:Around}{E:Value→Shared→Prop}{i:Nat}{x:Str}{v:V}{u:Value}{Q:Unit→Shared→Prop}(I:Inv X pins σ H s)(hN:X.N.Nodup)(hi:X.N[i]?=some x)(hx:Loc X.env.scope x)(r:RelV v u)
  (h:∀s',Inv X pins (σ.set i (some v)) H s'→(∃a,Heap.SameBut a s.heap s'.heap∧(a=X.env.locals∨X.env.cells.lookup x=some a))→Q () s') (hf:X.fn x=true∨X.env.scope.names.lookup x=some .local:=by first|exact .inl rfl|exact .inr rfl|assumption):wpAny M A (storeName X.env x u) Q E s:=by
 obtain⟨m,hn,hl⟩:=id I.loc
 have hcls:(X.env.scope.kind == .class||(X.env.scope.kind == .module&&X.env.locals != X.env.globals))=false:=by rw[I.ok.kind];rfl
 have hiσ:i<σ.length:=by rw[I.len];exact(List.getElem?_eq_some_iff.mp hi).1
 have cne:=I.cne
 have tracked:∀{a:Addr} {h':Heap},(∃o,s.heap.get? a=some o∧H a=none)→Heap.SameBut a s.heap h'→HOk X.prog X.w H h':=fun {a h'} ha hs b ob e=>by
  obtain⟨_,_,hfree⟩:=ha
  refine(I.hok b ob e).stay (fun c w' hc q=>(hs.2 c ?_).trans q) (fun _ q=>q) fun _ _ q=>q
  rintro rfl
  rcases hc with rfl|hc
  ·rw[hfree] at e;cases e
  ·rw[hfree] at hc;cases hc
 rcases hx with hk|hk
 ·refine wpAny_storeName_local hk hn (fun h' hn' hs=>?_) hcls
  refine byc fun zG_=>?_
  obtain⟨oL,_,_,hoL,_⟩:=id hn
  refine zG_ ?_
  refine h _ ⟨I.ok,I.os,I.bare,⟨fun b o e n hb hx=>?_,fun b o e n hb hx=>?_,I.base.free,fun b o e hx=>?_,I.base.tups,I.base.frzs,I.base.tbls⟩,⟨_,hn',fun j y v' e1 e2 e3=>?_⟩,fun y c e=>?_,I.free,I.freeC,fun p hp=>?_,tracked ⟨oL,hoL,I.free⟩ hs,by simpa using I.len⟩ ⟨_,hs,.inl rfl⟩
  ·exact(hs.2 b (ne_of_lt (lt_of_lt_of_le (Heap.lt_size e) I.ok.above))).trans (I.base.keep b o e n hb hx)
  ·obtain⟨sl,e1⟩:=I.base.slot b o e n hb hx
   exact⟨sl,(hs.2 b (ne_of_lt (lt_of_lt_of_le (Heap.lt_size e) I.ok.above))).trans e1⟩
  ·obtain⟨o',e1⟩:=I.base.there b o e hx
   exact⟨o',(hs.2 b (ne_of_lt (lt_of_lt_of_le (Heap.lt_size e) I.ok.above))).trans e1⟩
  ·by_cases hj:j=i
   ·subst hj
    rw[hi] at e1;cases e1
    rw[getElem?_set_self hiσ] at e2
    cases e2
    exact⟨u,r,.inl ⟨hk,by simp⟩⟩
   ·rw[getElem?_set_ne (Ne.symm hj)] at e2
    obtain⟨u',r',q⟩:=hl j y v' e1 e2 e3
    refine⟨u',r',?_⟩
    rcases q with ⟨k,e⟩|⟨k,c,e,z⟩
    ·refine .inl ⟨k,?_⟩
     have:y≠x:=fun e=>hj (VJ hN e1 (e ▸ hi))
     simp[this,e]
    ·exact .inr ⟨k,c,e,z.sameBut hs (cne y c e)⟩
  ·obtain⟨w',z⟩:=I.cell y c e
   exact⟨w',z.sameBut hs (cne y c e)⟩
  ·refine byc fun zG_=>?_
   obtain⟨e,n,ne,nf,d⟩:=I.pin p hp
   refine zG_ ?_
   exact⟨(hs.2 p.1 ne).trans e,n,ne,nf,d⟩
 ·have hfn:X.fn x=true:=by
   rcases hf with z|z
   ·exact z
   ·rw[z] at hk;cases hk
  obtain⟨c,hc⟩:=I.ok.has x (.inl hk)
  obtain⟨w',z⟩:=I.cell x c hc
  refine wpAny_storeName_cell I.ok.kind hk hc z (fun h' hc' hs=>?_)
  obtain⟨oc,hoc,hocd⟩:=id z
  refine h { s with heap:=h' } ⟨I.ok,I.os,I.bare,⟨fun b o e n hb hx=>?_,fun b o e n hb hx=>?_,I.base.free,fun b o e hx=>?_,I.base.tups,I.base.frzs,I.base.tbls⟩,⟨m,hn.sameBut hs (Ne.symm (cne x c hc)),fun j y v' e1 e2 e3=>?_⟩,fun y c' e=>?_,I.free,I.freeC,fun p hp=>?_,tracked ⟨oc,hoc,I.freeC x c hc⟩ hs,by simpa using I.len⟩ ⟨c,hs,.inr hc⟩
  ·exact(hs.2 b (ne_of_lt (lt_of_lt_of_le (Heap.lt_size e) (I.ok.cab x c hfn hc)))).trans (I.base.keep b o e n hb hx)
  ·obtain⟨sl,e1⟩:=I.base.slot b o e n hb hx
   exact⟨sl,(hs.2 b (ne_of_lt (lt_of_lt_of_le (Heap.lt_size e) (I.ok.cab x c hfn hc)))).trans e1⟩
  ·obtain⟨o',e1⟩:=I.base.there b o e hx
   exact⟨o',(hs.2 b (ne_of_lt (lt_of_lt_of_le (Heap.lt_size e) (I.ok.cab x c hfn hc)))).trans e1⟩
  ·by_cases hj:j=i
   ·subst hj
    rw[hi] at e1;cases e1
    rw[getElem?_set_self hiσ] at e2
    cases e2
    exact⟨u,r,.inr ⟨.inl hk,c,hc,hc'⟩⟩
   ·rw[getElem?_set_ne (Ne.symm hj)] at e2
    obtain⟨u',r',q⟩:=hl j y v' e1 e2 e3
    refine⟨u',r',?_⟩
    rcases q with q|⟨k,c',e,z'⟩
    ·exact .inl q
    ·refine .inr ⟨k,c',e,z'.sameBut hs ?_⟩
     rintro rfl
     exact hj (VJ hN e1 (I.ok.inj _ _ _ e hc ▸ hi))
  ·by_cases hcc:c'=c
   ·subst hcc;exact⟨_,hc'⟩
   ·obtain⟨w2,z2⟩:=I.cell y c' e
    exact⟨w2,z2.sameBut hs hcc⟩
  ·refine byc fun zG_=>?_
   obtain⟨e,n,ne,nf,d⟩:=I.pin p hp
   refine zG_ ?_
   refine⟨(hs.2 p.1 ?_).trans e,n,ne,nf,d⟩
   intro q
   rw[q,hoc] at e
   have q':oc=p.2:=Option.some.inj e
   exact d w' (by rw[← q'];exact hocd)
theorem Vq{M:Model}{A:Around}{E:Value→Shared→Prop}{i:Nat}{x:Str}{v:V}{u:Value}{Q:Unit→Shared→Prop}(I:Inv X pins σ H s)(hN:X.N.Nodup)(hi:X.N[i]?=some x)(hx:Loc X.env.scope x)(r:RelV v u)
  (h:∀s',Inv X pins (σ.set i (some v)) H s'→Q () s') (hf:X.fn x=true∨X.env.scope.names.lookup x=some .local:=by first|exact .inl rfl|exact .inr rfl|assumption):wpAny M A (storeName X.env x u) Q E s:=
 XW I hN hi hx r (fun s' I' _=>h s' I') hf
theorem Inv.call'{s':Shared}{ch:List Addr}(I:Inv X pins σ H s)(ho:s'.os=s.os)(u:Un (frs X.stack) ch H H' s.heap s'.heap)(hok:HOk X.prog X.w H' s'.heap)(hg:AllBare s'.gens)
  (hch:∀b∈ch,(b∈X.ex∨X.s₀.heap.objs.size≤b)∧b≠X.env.locals∧(∀x c,X.env.cells.lookup x=some c→c≠b)∧∀p∈X.pn++pins,p.1≠b):Inv X pins σ H' s':=by
 refine byc fun zG_=>?_
 obtain⟨h',g',d',t',o'⟩:=s'
 refine zG_ ?_
 have e:o'=s.os:=ho
 subst e
 exact I.call (g':=g') (t':=t') (d':=d') u hok hg hch
end
noncomputable abbrev XK:=Value→Option Addr→Hp→Prop
noncomputable abbrev St:=List (Option V)
noncomputable abbrev VK:=V→Hp→Prop
noncomputable abbrev TE:=St→Hp→VK→Prop
noncomputable abbrev TT:=St→Hp→(Bool→Hp→Prop)→Prop
noncomputable abbrev TA:=St→Hp→(List V→Hp→Prop)→Prop
structure XQ where
 nx:St→Hp→Prop
 rt:VK
 bk:St→Hp→Prop:=fun _ _=>False
 ct:St→Hp→Prop:=fun _ _=>False
noncomputable abbrev TS:=XQ→St→Hp→Prop
noncomputable def EP(X:Cx)(pins:List (Addr×Obj))(σ:St)(Q:VK)(u:Value)(s':Shared):Prop:=∃v H',Inv X pins σ H' s'∧RelV v u∧Q v H'
noncomputable def TP(X:Cx)(pins:List (Addr×Obj))(σ:St)(Q:Bool→Hp→Prop)(b:Bool)(s':Shared):Prop:=∃H',Inv X pins σ H' s'∧Q b H'
noncomputable def AP(X:Cx)(pins:List (Addr×Obj))(σ:St)(Q:List V→Hp→Prop)(us:List Value)(s':Shared):Prop:=∃vs H',Inv X pins σ H' s'∧Vals vs us∧Q vs H'
noncomputable def SP(X:Cx)(pins:List (Addr×Obj))(D:XQ)(f:Flow)(s':Shared):Prop:=
 match f with
 |.next=>∃σ' H',Inv X pins σ' H' s'∧D.nx σ' H'
 |.brk=>∃σ' H',Inv X pins σ' H' s'∧D.bk σ' H'
 |.cont=>∃σ' H',Inv X pins σ' H' s'∧D.ct σ' H'
 |.ret u=>∃v σ' H',Inv X pins σ' H' s'∧RelV v u∧D.rt v H'
noncomputable def PE(X:Cx)(e:Expr)(t:TE):Prop:=
 ∀(pins:List (Addr×Obj)) (s:Shared) (σ:St) (H:Hp) (Q:VK),Inv X pins σ H s→t σ H Q→wpAny (model X.prog X.w) X.A (eval e X.env) (EP X pins σ Q) X.xe s
noncomputable def PT(X:Cx)(e:Expr)(t:TT):Prop:=
 ∀(pins:List (Addr×Obj)) (s:Shared) (σ:St) (H:Hp) (Q:Bool→Hp→Prop),Inv X pins σ H s→t σ H Q→wpAny (model X.prog X.w) X.A (isTrue e X.env (eval e X.env)) (TP X pins σ Q) X.xe s
noncomputable def PW(X:Cx)(e:Expr)(t:TT):Prop:=
 ∀(whole:Sem Value) (pins:List (Addr×Obj)) (s:Shared) (σ:St) (H:Hp) (Q:Bool→Hp→Prop),Inv X pins σ H s→t σ H Q→wpAny (model X.prog X.w) X.A (isTrue e X.env whole) (TP X pins σ Q) X.xe s
theorem PW.pt{X:Cx}{e:Expr}{t:TT}(h:PW X e t):PT X e t:=h _
noncomputable def PA(X:Cx)(es:List Expr)(t:TA):Prop:=
 ∀(pos:Pos) (pins:List (Addr×Obj)) (s:Shared) (σ:St) (H:Hp) (Q:List V→Hp→Prop),Inv X pins σ H s→t σ H Q→wpAny (model X.prog X.w) X.A (spliced (backTo pos (starEach es X.env))) (AP X pins σ Q) X.xe s
noncomputable def PS(X:Cx)(st:Stmt)(t:TS):Prop:=
 ∀(pins:List (Addr×Obj)) (s:Shared) (σ:St) (H:Hp) (D:XQ),Inv X pins σ H s→t D σ H→wpAny (model X.prog X.w) X.A (exec st X.env) (SP X pins D) X.xe s
noncomputable def PSs(X:Cx)(st:List Stmt)(t:TS):Prop:=
 ∀(pins:List (Addr×Obj)) (s:Shared) (σ:St) (H:Hp) (D:XQ),Inv X pins σ H s→t D σ H→wpAny (model X.prog X.w) X.A (execs st X.env) (SP X pins D) X.xe s
theorem thn{α:Type}{t:Sem α}{Q Q':α→Shared→Prop}{M:Model}{A:Around}{E:Value→Shared→Prop}{s:Shared}(h:wpAny M A t Q E s)(hQ:∀a s,Q a s→Q' a s):wpAny M A t Q' E s:=wpAny_mono h hQ fun _ _ x=>x
section
variable{X:Cx}
noncomputable def yX(i:Nat):TE:=fun σ H Q=>∃v,σ[i]?=some (some v)∧Q v H
noncomputable def tC(v:V):TE:=fun _ H Q=>Q v H
theorem zd6{i:Nat}{x:Str}{pos:Pos}(hN:X.N[i]?=some x)(hv:Vis X.env.scope x)(hd:(x==("__debug__" : Str))=false:=by decide)(hcd:(x==("__classdict__" : Str))=false:=by decide):PE X (.Name x pos) (yX i):=by
 intro pins s σ H Q I h
 refine byc fun zG_=>?_
 obtain⟨v,e,h⟩:=h
 obtain⟨m,hn,hl⟩:=I.loc
 obtain⟨u,r,l⟩:=hl i x v hN e hv
 refine zG_ ?_
 have fin:EP X pins σ Q u s:=⟨v,H,I,r,h⟩
 rcases l with ⟨hk,hm⟩|⟨hk,c,hc,hcell⟩
 ·exact wpAny_Name (wpAny_loadName_local I.ok.kind hk hn hm fin) hd
 ·rcases hk with hk|hk
  ·exact wpAny_Name (wpAny_loadName_cell I.ok.kind hk hc hcell fin) hd
  ·exact wpAny_Name (wpAny_loadName_free I.ok.kind hk hc hcell fin hcd) hd
theorem ze1{i j pos}:PE X (.Constant (.int i) j pos) (tC (.int i)):=fun _ _ _ H _ I h=>wpAny_Constant_int ⟨.int i,H,I.tok _,⟨_,rfl⟩,h⟩
theorem pe_bl{b j pos}:PE X (.Constant (.bool b) j pos) (tC (.bl b)):=fun _ _ _ H _ I h=>Constant_bool ⟨.bl b,H,I,rfl,h⟩
theorem ze0{j pos}:PE X (.Constant .none j pos) (tC .non):=fun _ _ _ H _ I h=>Constant_none ⟨.non,H,I,rfl,h⟩
theorem zd8{x j pos}:PE X (.Constant (.str x) j pos) (tC (.str x)):=fun _ _ _ H _ I h=>Calls.Constant_str ⟨.str x,H,I.tok _,⟨_,rfl⟩,h⟩
noncomputable def Gl(X:Cx)(x:Str):Prop:=X.env.kindOf x=some .globalImplicit
theorem WY{E:Value→Shared→Prop}{pins:List (Addr×Obj)}{s:Shared}{σ:St}{H:Hp}{x:Str}{u:Value}{pos:Pos}{Q:Value→Shared→Prop}(I:Inv X pins σ H s)(hg:Gl X x)(hm:X.mg x=some u)(h:Q u s)
  (hd:(x==("__debug__" : Str))=false:=by decide):wpAny (model X.prog X.w) X.A (eval (.Name x pos) X.env) Q E s:=
 Calls.Name_function_global I.ok.kind hg (Calls.loadGlobal_global (by rw[I.ok.glob];exact I.mod.glob.keeps I.bk) hm h) hd
theorem uv{E:Value→Shared→Prop}{pins:List (Addr×Obj)}{s:Shared}{σ:St}{H:Hp}{x:Str}{u:Value}{pos:Pos}{Q:Value→Shared→Prop}(I:Inv X pins σ H s)(hg:Gl X x)(hm:X.mg x=none)(hv:bootBuiltins x=some u)(h:Q u s)
  (hn:x ≠ "__name__" := by decide) (hd:(x==("__debug__" : Str))=false:=by decide):wpAny (model X.prog X.w) X.A (eval (.Name x pos) X.env) Q E s:=by
 obtain⟨mb,h1,h2⟩:=I.mod.blt
 exact Calls.Name_function_global I.ok.kind hg (Calls.loadGlobal_builtin (by rw[I.ok.glob];exact I.mod.glob.keeps I.bk) hm (by rw[I.ok.blt];exact h1.keeps I.bk) ((h2 x hn).trans hv) h) hd
theorem TX{x:Str}{v:V}{u:Value}{pos:Pos}(hg:Gl X x)(hm:X.mg x=some u)(r:RelV v u)(hd:(x==("__debug__" : Str))=false:=by decide):PE X (.Name x pos) (tC v):=
 fun _ _ _ H _ I h=>WY I hg hm ⟨v,H,I,r,h⟩ hd
variable{a b:Expr}{ta tb:TE}{pos:Pos}
noncomputable def tB(t:TE):TT:=fun σ H Q=>t σ H fun x H1=>∃c,x=.bl c∧Q c H1
variable{tA tB':TT}{rest:List Expr}
noncomputable def tAnd(t u:TT):TT:=fun σ H Q=>t σ H fun c H1=>if c=true then u σ H1 Q else Q false H1
noncomputable def tOr(t u:TT):TT:=fun σ H Q=>t σ H fun c H1=>if c=true then Q true H1 else u σ H1 Q
noncomputable def tNot(t:TT):TT:=fun σ H Q=>t σ H fun c H1=>Q (!c) H1
theorem TJ(ha:PT X a tA):PW X (.BoolOp .And [a] pos) tA:=by
 intro wh pins s σ H Q I h
 refine isTrue_and (thn (ha pins s σ H Q I h) fun c s1 e=>?_)
 cases c with
 |true=>exact isTrue_and_nil e
 |false=>exact e
theorem GI(ha:PT X a tA):PW X (.BoolOp .Or [a] pos) tA:=by
 intro wh pins s σ H Q I h
 refine isTrue_or (thn (ha pins s σ H Q I h) fun c s1 e=>?_)
 cases c with
 |false=>exact isTrue_or_nil e
 |true=>exact e
theorem zc8(ha:PT X a tA)(hb:PW X (.BoolOp .And (b::rest) pos) tB'):PW X (.BoolOp .And (a::b::rest) pos) (tAnd tA tB'):=by
 intro wh pins s σ H Q I h
 refine isTrue_and (thn (ha pins s σ H _ I h) fun c s1 z_=>?_)
 obtain⟨H1,I1,q1⟩:=z_
 cases c with
 |true=>exact hb wh pins s1 σ H1 Q I1 q1
 |false=>exact⟨H1,I1,q1⟩
theorem za1(ha:PT X a tA)(hb:PW X (.BoolOp .Or (b::rest) pos) tB'):PW X (.BoolOp .Or (a::b::rest) pos) (tOr tA tB'):=by
 intro wh pins s σ H Q I h
 refine isTrue_or (thn (ha pins s σ H _ I h) fun c s1 z_=>?_)
 obtain⟨H1,I1,q1⟩:=z_
 cases c with
 |true=>exact⟨H1,I1,q1⟩
 |false=>exact hb wh pins s1 σ H1 Q I1 q1
theorem zc9(ha:PT X a tA):PT X (.UnaryOp .Not a pos) (tNot tA):=by
 intro pins s σ H Q I h
 exact isTrue_not (ha pins s σ H (fun c H1=>Q (!c) H1) I h)
theorem zd9{op}{t:TE}(h:PE X a t):PE X (.BoolOp op [a] pos) t:=fun pins s σ H Q I hw=>BoolOp_one (h pins s σ H Q I hw)
noncomputable def tIf(t:TT)(ta tb:TE):TE:=fun σ H Q=>t σ H fun c H1=>if c=true then ta σ H1 Q else tb σ H1 Q
theorem GQ{c:Expr}(hc:PT X c tA)(ha:PE X a ta)(hb:PE X b tb):PE X (.IfExp c a b pos) (tIf tA ta tb):=by
 intro pins s σ H Q I h
 refine wpAny_IfExp (thn (hc pins s σ H _ I h) fun d s1 z_=>?_)
 obtain⟨H1,I1,q1⟩:=z_
 cases d with
 |true=>exact ha pins s1 σ H1 Q I1 q1
 |false=>exact hb pins s1 σ H1 Q I1 q1
end
noncomputable def SqL(K:Frag)(H:Hp)(a:Addr)(xs:List V):Prop:=
 Rd H a (.lst xs) ∨
  ∃(o:Obj) (its:Array Value) (n:Nat),K.lookup a=some o∧o.cls=.type "list" ∧ o.dict=none∧o.data=.seq its n∧its.size≤sizeLine∧Vals xs its.toList
noncomputable def SqT(K:Frag)(H:Hp)(a:Addr)(xs:List V):Prop:=
 Rd H a (.tup xs) ∨
  ∃(o:Obj) (its:Array Value) (n:Nat),K.lookup a=some o∧o.cls=.type "tuple" ∧ o.data=.seq its n∧its.size≤sizeLine∧Vals xs its.toList
noncomputable def absV:Value→Option V
 |.none=>some .non
 |.bool b=>some (.bl b)
 |.int i _=>some (.int i)
 |.str x _=>some (.str x)
 |.bytes b _=>some (.byt b)
 |.float b _=>some (.flt b)
 |.ref a=>some (.ref a)
 |.type n=>some (.ty n)
 |_=>none
theorem RelV.abs{x:V}{u:Value}(r:RelV x u):absV u=some x:=by
 cases x with
 |non=>cases r;rfl
 |bl _=>cases r;rfl
 |int _=>obtain⟨t,rfl⟩:=r;rfl
 |str _=>obtain⟨t,rfl⟩:=r;rfl
 |byt _=>obtain⟨t,rfl⟩:=r;rfl
 |flt _=>obtain⟨t,rfl⟩:=r;rfl
 |ref _=>cases r;rfl
 |ty _=>cases r;rfl
theorem RelV.inj{x y:V}{u:Value}(r:RelV x u)(q:RelV y u):x=y:=Option.some.inj (r.abs.symm.trans q.abs)
theorem Vals.inj:∀{xs ys:List V} {us:List Value},Vals xs us→Vals ys us→xs=ys
 |_,_,_,.nil,.nil=>rfl
 |_,_,_,.cons r t,.cons r' t'=>by rw[r.inj r',Vals.inj t t']
section
variable{X:Cx}{pins:List (Addr×Obj)}{σ:St}{H:Hp}{s:Shared}{a:Addr}{xs ys:List V}
theorem SqL.of{K:Frag}(h:H a=some (.lst xs)):SqL K H a xs:=.inl (.inl h)
theorem SqT.of{K:Frag}(h:H a=some (.tup xs)):SqT K H a xs:=.inl (.inl h)
theorem Inv.list(I:Inv X pins σ H s)(h:SqL X.K H a xs):∃its:List Value,Vals xs its∧PlainL s.heap a its.toArray∧xs.length≤sizeLine:=by
 rcases h with h|⟨o,its,n,hk,hc,hd,hs,hz,r⟩
 ·refine byc fun zG_=>?_
  obtain⟨z,its,n,r,e⟩:=h.ok I.hok
  refine zG_ ?_
  exact⟨its,r,⟨_,n,e,rfl,rfl,rfl⟩,z⟩
 ·refine⟨its.toList,r,⟨o,n,I.kIn a o hk,hc,hd,by simpa using hs⟩,?_⟩
  have e:=r.length
  simp only[length_toList] at e
  lia
theorem Inv.tuple(I:Inv X pins σ H s)(h:SqT X.K H a xs):∃its:List Value,Vals xs its∧IsTup s.heap a its.toArray∧xs.length≤sizeLine:=by
 rcases h with h|⟨o,its,n,hk,hc,hs,hz,r⟩
 ·refine byc fun zG_=>?_
  obtain⟨z,its,r,p⟩:=h.ok I.hok
  refine zG_ ?_
  exact⟨its,r,p,z⟩
 ·refine⟨its.toList,r,⟨o,I.kIn a o hk,hc,n,by simpa using hs⟩,?_⟩
  have e:=r.length
  simp only[length_toList] at e
  lia
theorem Inv.list_inj(I:Inv X pins σ H s)(h:SqL X.K H a xs)(h':SqL X.K H a ys):xs=ys:=by
 refine byc fun zG_=>?_
 obtain⟨its,r,⟨o,n,e,_,_,d⟩,_⟩:=I.list h
 obtain⟨its',r',⟨o',n',e',_,_,d'⟩,_⟩:=I.list h'
 refine zG_ ?_
 rw[e] at e';cases e'
 rw[d] at d'
 injection d' with d1 _
 have:its=its':=by simpa using congrArg Array.toList d1
 subst this
 exact r.inj r'
theorem Inv.tuple_inj(I:Inv X pins σ H s)(h:SqT X.K H a xs)(h':SqT X.K H a ys):xs=ys:=by
 refine byc fun zG_=>?_
 obtain⟨its,r,⟨o,e,_,n,d⟩,_⟩:=I.tuple h
 obtain⟨its',r',⟨o',e',_,n',d'⟩,_⟩:=I.tuple h'
 refine zG_ ?_
 rw[e] at e';cases e'
 rw[d] at d'
 injection d' with d1 _
 have:its=its':=by simpa using congrArg Array.toList d1
 subst this
 exact r.inj r'
end
noncomputable abbrev Cx.wish(X:Cx)(E:Value→Shared→Prop):Cx:={ X with xe:=E }
noncomputable abbrev Cx.nox(X:Cx):Cx:=X.wish fun _ _=>False
theorem Cx.Ok.wish{X:Cx}(ok:X.Ok)(E:Value→Shared→Prop):(X.wish E).Ok:=
 ⟨ok.mod,ok.kind,ok.glob,ok.blt,ok.above,ok.inj,ok.has,ok.cab,ok.hd,ok.frames,ok.stk,ok.exf,ok.bs,ok.bsz,ok.noex,ok.exfs,ok.funs,ok.frf⟩
theorem Cx.Ok.unwish{X:Cx}{E:Value→Shared→Prop}(ok:(X.wish E).Ok):X.Ok:=
 ⟨ok.mod,ok.kind,ok.glob,ok.blt,ok.above,ok.inj,ok.has,ok.cab,ok.hd,ok.frames,ok.stk,ok.exf,ok.bs,ok.bsz,ok.noex,ok.exfs,ok.funs,ok.frf⟩
section
variable{X:Cx}{pins:List (Addr×Obj)}{σ:St}{H:Hp}{s:Shared}{E:Value→Shared→Prop}
theorem Inv.wish(I:Inv X pins σ H s)(E:Value→Shared→Prop):Inv (X.wish E) pins σ H s:=⟨I.ok.wish E,I.os,I.bare,I.base,I.loc,I.cell,I.free,I.freeC,I.pin,I.hok,I.len⟩
theorem Inv.unwish(I:Inv (X.wish E) pins σ H s):Inv X pins σ H s:=⟨I.ok.unwish,I.os,I.bare,I.base,I.loc,I.cell,I.free,I.freeC,I.pin,I.hok,I.len⟩
theorem SP.unwish{D:XQ}{f:Flow}{s':Shared}(h:SP (X.wish E) pins D f s'):SP X pins D f s':=by
 cases f with
 |next=>obtain⟨σ',H',I,q⟩:=h;exact⟨σ',H',I.unwish,q⟩
 |brk=>obtain⟨σ',H',I,q⟩:=h;exact⟨σ',H',I.unwish,q⟩
 |cont=>obtain⟨σ',H',I,q⟩:=h;exact⟨σ',H',I.unwish,q⟩
 |ret u=>obtain⟨v,σ',H',I,r,q⟩:=h;exact⟨v,σ',H',I.unwish,r,q⟩
theorem PSs.nox{st:List Stmt}{t:TS}(h:PSs X.nox st t):PSs X st t:=fun pins s σ H D I hw=>
 wpAny_mono (h pins s σ H D (I.wish _) hw) (fun _ _ q=>q.unwish) fun _ _ z=>False.elim z
end
section
variable{X:Cx}{st:Stmt}{rest:List Stmt}{t u:TS}{e:Expr}{te:TE}{pos:Pos}
noncomputable def tNext:TS:=fun D σ H=>D.nx σ H
noncomputable def tSeq(t u:TS):TS:=fun D σ H=>t { D with nx:=u D } σ H
theorem TM:PSs X [] tNext:=fun _ _ σ H _ I h=>wpAny_execs_nil ⟨σ,H,I,h⟩
theorem jX(h1:PS X st t)(h2:PSs X rest u):PSs X (st::rest) (tSeq t u):=by
 intro pins s σ H D I h
 refine wpAny_execs_cons (thn (h1 pins s σ H { D with nx:=u D } I h) fun f s1 q=>?_)
 cases f with
 |next=>
  refine byc fun zG_=>?_
  obtain⟨σ',H',I',q⟩:=q
  refine zG_ ?_
  exact h2 pins s1 σ' H' D I' q
 |ret v=>exact q
 |brk=>exact q
 |cont=>exact q
theorem TL(h1:PS X st t):PSs X [st] t:=by
 intro pins s σ H D I h
 refine wpAny_execs_cons (thn (h1 pins s σ H D I h) fun f s1 q=>?_)
 cases f with
 |next=>exact wpAny_execs_nil q
 |ret v=>exact q
 |brk=>exact q
 |cont=>exact q
noncomputable def zc3:TS:=fun D σ H=>D.bk σ H
theorem GN:PS X (.Break pos) zc3:=fun _ _ σ H _ I h=>wpAny_Break ⟨σ,H,I,h⟩
theorem Inv.quiet{pins:List (Addr×Obj)}{σ:St}{H:Hp}{s:Shared}(I:Inv X pins σ H s):interactive X.env=false:=by simp[interactive,I.ok.kind]
noncomputable def tDrop(te:TE):TS:=fun D σ H=>te σ H fun _ H1=>D.nx σ H1
theorem ja(he:PE X e te)(hs:swapsWith e none pos.line X.env=pure false:=by rfl):PS X (.Expr e pos) (tDrop te):=by
 intro pins s σ H D I h
 exact wpAny_Expr_any (thn (he pins s σ H _ I h) fun v s1 ⟨x,H1,I1,r1,q1⟩=>⟨σ,H1,I1,q1⟩) I.quiet hs
noncomputable def tRet(te:TE):TS:=fun D σ H=>te σ H D.rt
theorem WG(he:PE X e te):PS X (.Return (some e) pos) (tRet te):=by
 intro pins s σ H D I h
 exact wpAny_Return_some (thn (he pins s σ H _ I h) fun v s1 ⟨x,H1,I1,r1,q1⟩=>⟨x,σ,H1,I1,r1,q1⟩)
noncomputable def tIfS(c:TT)(t u:TS):TS:=fun D σ H=>c σ H fun b H1=>if b=true then t D σ H1 else u D σ H1
theorem za2{c:Expr}{a b:List Stmt}{tc:TT}(hc:PT X c tc)(ha:PSs X a t)(hb:PSs X b u):PS X (.If c a b pos) (tIfS tc t u):=by
 intro pins s σ H D I h
 refine wpAny_If (thn (hc pins s σ H _ I h) fun d s1 z_=>?_)
 obtain⟨H1,I1,q1⟩:=z_
 cases d with
 |true=>exact ha pins s1 σ H1 D I1 q1
 |false=>exact hb pins s1 σ H1 D I1 q1
noncomputable def zc1:TS:=fun _ _ _=>False
theorem GM:PS X st zc1:=fun _ _ _ _ _ _ h=>h.elim
end
noncomputable abbrev TG:=V→St→Hp→(St→Hp→Prop)→Prop
noncomputable abbrev TGs:=List V→St→Hp→(St→Hp→Prop)→Prop
noncomputable def PG(X:Cx)(target:Expr)(t:TG):Prop:=
 ∀(pins:List (Addr×Obj)) (s:Shared) (σ:St) (H:Hp) (v:V) (u:Value) (Q:St→Hp→Prop),Inv X pins σ H s→RelV v u→t v σ H Q →
  wpAny (model X.prog X.w) X.A (assign target X.env u) (fun _ s'=>∃σ' H',Inv X pins σ' H' s'∧Q σ' H') X.xe s
noncomputable def PGs(X:Cx)(ts:List Expr)(t:TGs):Prop:=
 ∀(pins:List (Addr×Obj)) (s:Shared) (σ:St) (H:Hp) (vs:List V) (us:List Value) (Q:St→Hp→Prop),Inv X pins σ H s→Vals vs us→t vs σ H Q →
  wpAny (model X.prog X.w) X.A (assignInOrder ((assignEach ts X.env).map (·.2)) us) (fun _ s'=>∃σ' H',Inv X pins σ' H' s'∧Q σ' H') X.xe s
noncomputable abbrev zk4:=V→V→V→Hp→(Hp→Prop)→Prop
noncomputable def PSet(X:Cx)(t:zk4):Prop:=
 ∀(pins:List (Addr×Obj)) (s:Shared) (σ:St) (H:Hp) (o i v:V) (ov iv u:Value) (Q:Hp→Prop),Inv X pins σ H s→RelV o ov→RelV i iv→RelV v u→t o i v H Q →
  wpAny (model X.prog X.w) X.A (setItem ov iv u) (fun _ s'=>∃H',Inv X pins σ H' s'∧Q H') X.xe s
section
variable{X:Cx}{pos:Pos}
noncomputable def Zf(i:Nat):TG:=fun v σ H Q=>Q (σ.set i (some v)) H
theorem Yk{i:Nat}{x:Str}(hN:X.N.Nodup)(hi:X.N[i]?=some x)(hx:Loc X.env.scope x)(hf:X.fn x=true∨X.env.scope.names.lookup x=some .local:=by first|exact .inl rfl|exact .inr rfl|assumption):PG X (.Name x pos) (Zf i):=by
 intro pins s σ H v u Q I r h
 exact wpAny_assign_Name (Vq I hN hi hx r (fun s' I'=>⟨_,H,I',h⟩) hf)
noncomputable def gNil:TGs:=fun vs σ H Q=>vs=[]∧Q σ H
noncomputable def gCons(t:TG)(u:TGs):TGs:=fun vs σ H Q=>∃v r,vs=v::r∧t v σ H fun σ' H'=>u r σ' H' Q
theorem TV:PGs X [] gNil:=by
 intro pins s σ H vs us Q I r h
 obtain⟨e,h⟩:=h
 subst e
 cases r
 exact assignInOrder_nil ⟨σ,H,I,h⟩
theorem Vw{e:Expr}{es:List Expr}{t:TG}{u:TGs}(h1:PG X e t)(h2:PGs X es u)
  (hs:(assignEach (e::es) X.env).map (·.2)=assign e X.env::(assignEach es X.env).map (·.2):=by rfl):PGs X (e::es) (gCons t u):=by
 intro pins s σ H vs us Q I r h
 refine byc fun zG_=>?_
 obtain⟨v,vr,e1,h⟩:=h
 refine zG_ ?_
 subst e1
 cases r with
 |cons r rr=>
  rw[hs]
  refine assignInOrder_cons (thn (h1 pins s σ H _ _ _ I r h) fun _ s1 z_=>?_)
  refine byc fun zG_=>?_
  obtain⟨σ1,H1,I1,q1⟩:=z_
  refine zG_ ?_
  exact h2 pins s1 σ1 H1 _ _ Q I1 rr q1
noncomputable def gTup(K:Frag)(n:Nat)(t:TGs):TG:=fun v σ H Q=>∃a xs,v=.ref a∧SqT K H a xs∧xs.length=n∧t xs σ H Q
theorem zd4{es:List Expr}{k:Nat}{t:TGs}{n:Nat}(hc:X.calm=true)(h:PGs X es t)
  (hn:(assignEach es X.env).length=n:=by rfl) (hst:(assignEach es X.env).findIdx? (·.1)=none:=by rfl):PG X (.Tuple es k pos) (gTup X.K n t):=by
 intro pins s σ H v u Q I r hw
 refine byc fun zG_=>?_
 obtain⟨a,xs,e1,hq,hl,hw⟩:=hw
 refine zG_ ?_
 subst e1
 cases r
 refine byc fun zG_=>?_
 obtain⟨its,rv,ht,hz⟩:=I.tuple hq
 refine zG_ ?_
 refine assign_Tuple_tuple (I.ok.hd hc) ht (by simp[hn,← hl,rv.length]) hst fun h' hx=>?_
 have I1:Inv X pins σ H { s with heap:=h' }:=I.kept (t':=s.toks) fun b o e=>hx b o (ne_of_lt (Heap.lt_size e)) e
 exact h pins _ σ H xs _ Q I1 (by simpa using rv) hw
noncomputable def gSub(to ti:TE)(t:zk4):TG:=fun v σ H Q=>to σ H fun o H1=>ti σ H1 fun i H2=>t o i v H2 fun H3=>Q σ H3
theorem zd5{o i:Expr}{to ti:TE}{t:zk4}(ho:PE X o to)(hi:PE X i ti)(hs:PSet X t)
  (ha:∀v,assign (.Subscript o i pos) X.env v=(do
   let ov ← holding [v] (eval o X.env)
   let iv ← holding [v,ov] (eval i X.env)
   standAt pos
   holding [v,ov,iv] (setItem ov iv v)
   release [v,ov,iv] []):=by intro _;rfl):PG X (.Subscript o i pos) (gSub to ti t):=by
 intro pins s σ H v u Q I r h
 rw[ha]
 refine wpAny_bind (wpAny_holding (thn (ho pins s σ H _ I h) fun ov s1 z_=>?_))
 refine byc fun zG_=>?_
 obtain⟨x,H1,I1,r1,q1⟩:=z_
 refine zG_ ?_
 refine wpAny_bind (wpAny_holding (thn (hi pins s1 σ H1 _ I1 q1) fun iv s2 z_=>?_))
 refine byc fun zG_=>?_
 obtain⟨y,H2,I2,r2,q2⟩:=z_
 refine zG_ ?_
 refine wpAny_bind (wpAny_standAt (wpAny_bind (wpAny_holding (thn (hs pins s2 σ H2 x y v ov iv u _ I2 r1 r2 r q2) fun _ s3 z_=>?_))))
 obtain⟨H3,I3,q3⟩:=z_
 exact wpAny_release ⟨σ,H3,I3,q3⟩
noncomputable def zc4(te:TE)(g:TG):TS:=fun D σ H=>te σ H fun x H1=>g x σ H1 D.nx
theorem zd1{tg e:Expr}{te:TE}{g:TG}(he:PE X e te)(hg:PG X tg g)(hs:swapsWithSole [tg] e pos.line X.env=pure false:=by rfl)(hw:swappedStores [tg] e X.env=pure none:=by rfl)
  (h1:(assignEach [tg] X.env).map (·.2)=[assign tg X.env]:=by rfl):PS X (.Assign [tg] e pos) (zc4 te g):=by
 intro pins s σ H D I h
 refine wpAny_Assign_stores (thn (he pins s σ H _ I h) fun v s1 z_=>?_) hs hw
 refine byc fun zG_=>?_
 obtain⟨x,H1,I1,r1,q1⟩:=z_
 refine zG_ ?_
 rw[h1]
 exact thn (hg pins s1 σ H1 x v _ I1 r1 q1) fun _ s2 q=>q
theorem WF{i:Nat}{x:Str}{e:Expr}{te:TE}{pos':Pos}(hN:X.N.Nodup)(hi:X.N[i]?=some x)(hx:Loc X.env.scope x)(he:PE X e te)(hs:swapsWith e (some (.Name x pos')) pos.line X.env=pure false:=by rfl)(hf:X.fn x=true∨X.env.scope.names.lookup x=some .local:=by first|exact .inl rfl|exact .inr rfl|assumption) :
  PS X (.Assign [.Name x pos'] e pos) (zc4 te (Zf i)):=by
 intro pins s σ H D I h
 refine wpAny_Assign_Name (thn (he pins s σ H _ I h) fun v s1 z_=>?_) hs
 refine byc fun zG_=>?_
 obtain⟨y,H1,I1,r1,q1⟩:=z_
 refine zG_ ?_
 exact Vq I1 hN hi hx r1 (fun s2 I2=>⟨_,H1,I2,q1⟩) hf
end
section
variable{X:Cx}{pos:Pos}
noncomputable def zc0(c:TT)(tb:TS):TS:=fun D σ H=>∃W:Nat→St→Hp→Prop,(∃m,W m σ H)∧∀m σ H,W m σ H →
 c σ H fun b H1=>if b=true then ∃N:St→Hp→Prop,(∀σ' H',N σ' H'→∃m',m'<m∧W m' σ' H')∧tb { D with nx:=N,ct:=N,bk:=D.nx } σ H1 else D.nx σ H1
theorem GL{c:Expr}{body:List Stmt}{tc:TT}{tb:TS}(hp:PassesOwn (model X.prog X.w) X.A X.env X.xe)(hc:PT X c tc)(hb:PSs X body tb):PS X (.While c body [] pos) (zc0 tc tb):=by
 intro pins s σ H D I h
 refine byc fun zG_=>?_
 obtain⟨W,⟨m0,w0⟩,turn⟩:=h
 refine zG_ ?_
 refine wpAny_While (codeAny_whileLoop (fun n s'=>∃σ' H',Inv X pins σ' H' s'∧W n σ' H') ?_ m0 ⟨σ,H,I,w0⟩)
 rintro n s1 ⟨σ1,H1,I1,w1⟩
 refine wpAny_passesOwn hp (thn (hc pins s1 σ1 H1 _ I1 (turn n σ1 H1 w1)) fun b s2 z_=>?_)
 obtain⟨H2,I2,q2⟩:=z_
 cases b with
 |true=>
  obtain⟨N,hN,q2⟩:=q2
  rw[if_pos rfl]
  refine wpAny_passesOwn hp (thn (hb pins s2 σ1 H2 _ I2 q2) fun f s3 q3=>?_)
  cases f with
  |next=>
   refine byc fun zG_=>?_
   obtain⟨σ3,H3,I3,n3⟩:=q3
   obtain⟨m',hm,w3⟩:=hN σ3 H3 n3
   refine zG_ ?_
   exact⟨m',hm,σ3,H3,I3,w3⟩
  |cont=>
   refine byc fun zG_=>?_
   obtain⟨σ3,H3,I3,n3⟩:=q3
   obtain⟨m',hm,w3⟩:=hN σ3 H3 n3
   refine zG_ ?_
   exact⟨m',hm,σ3,H3,I3,w3⟩
  |brk=>exact q3
  |ret v=>exact q3
 |false=>
  rw[if_neg Bool.false_ne_true]
  exact wpAny_execs_nil ⟨σ1,H2,I2,q2⟩
end
structure It where
 go:Nat→Hp→Prop
 yld:Nat→Hp→V→Hp→Prop
 stop:Nat→Hp→Prop
noncomputable def XO(X:Cx)(pins:List (Addr×Obj))(H:Hp)(b:Addr):Prop:=
 H b=none∧b≠X.env.locals∧b∉X.fs∧(b∈X.ex∨X.s₀.heap.objs.size≤b)∧(∀x c,X.env.cells.lookup x=some c→c≠b)∧∀p∈X.pn++pins,p.1≠b
theorem Inv.fpOk{X:Cx}{pins:List (Addr×Obj)}{σ:St}{H H':Hp}{s:Shared}{b:Addr}(I:Inv X pins σ H s)(hb:s.heap.objs.size≤b)(hn:H' b=none):XO X pins H' b:=by
 refine⟨hn,ne_of_gt (lt_of_lt_of_le I.lt hb),I.nofs hb,.inr (le_trans I.sz hb),fun x c e z=>?_,fun p hp z=>?_⟩
 ·obtain⟨v,q⟩:=I.cell x c e
  exact absurd (lt_of_lt_of_le q.lt (by rw[z];exact hb)) (lt_irrefl _)
 ·exact absurd (lt_of_lt_of_le (Heap.lt_size (I.pin p hp).1) (by rw[z];exact hb)) (lt_irrefl _)
structure Vf(P:Program)(w:World)(K:Frag)(tg:Expr)(J:It)(fp:List Addr)(it:Addr)(tn:Nat→Heap→Prop):Prop where
 mem:it∈fp
 obj:∀i h,tn i h→∀b∈fp,∃o,h.get? b=some o∧∀v,o.data≠.cell v
 keep:∀i h h',tn i h→(∀b∈fp,∀o,h.get? b=some o→h'.get? b=some o)→tn i h'
 item:∀(X:Cx),X.prog=P→X.w=w→X.K=K→X.calm=true→∀(i:Nat) (pins:List (Addr×Obj)) (s:Shared) (σ:St) (H:Hp) (E:Value→Shared→Prop),Inv X pins σ H s→(∀b∈fp,XO X pins H b)→tn i s.heap→J.go i H →
  wpAny (model P w) X.A (pyNext (.ref it)) (fun r s1=>∃u,r=some u ∧
   wpAny (model P w) X.A (letOwnedTupleGo tg (.ref it) u) (fun _ s2=>∃x H',Inv X pins σ H' s2∧RelV x u∧J.yld i H x H'∧tn (i+1) s2.heap∧∀b∈fp,H' b=none) E s1) E s
 done:∀(X:Cx),X.prog=P→X.w=w→X.K=K→X.calm=true→∀(i:Nat) (pins:List (Addr×Obj)) (s:Shared) (σ:St) (H:Hp) (E:Value→Shared→Prop),Inv X pins σ H s→(∀b∈fp,XO X pins H b)→tn i s.heap→J.stop i H →
  wpAny (model P w) X.A (pyNext (.ref it)) (fun r s1=>r=none∧Inv X pins σ H s1) E s
 self:∀(A:Around) (i:Nat) (s:Shared) (Q:Value→Shared→Prop) (E:Value→Shared→Prop),tn i s.heap→Q (.ref it) s→wpAny (model P w) A (pyIter (.ref it)) Q E s
noncomputable abbrev TI:=St→Hp→(It→Hp→Prop)→Prop
noncomputable def PIE(X:Cx)(pins:List (Addr×Obj))(σ:St)(tg:Expr)(R:It→Hp→Prop)(itv:Value)(s2:Shared):Prop:=
 ∃(it:Addr) (fp:List Addr) (tn:Nat→Heap→Prop) (J:It) (H':Hp),itv=.ref it∧Inv X pins σ H' s2∧Vf X.prog X.w X.K tg J fp it tn∧tn 0 s2.heap∧(∀b∈fp,XO X pins H' b)∧R J H'
noncomputable def PI(X:Cx)(tg iter:Expr)(wi:TI):Prop:=
 ∀(pins:List (Addr×Obj)) (s:Shared) (σ:St) (H:Hp) (R:It→Hp→Prop),Inv X pins σ H s→wi σ H R →
  wpAny (model X.prog X.w) X.A (eval iter X.env) (fun v s1=>wpAny (model X.prog X.w) X.A (pyIter v) (PIE X pins σ tg R) X.xe s1) X.xe s
theorem V2{M:Model}{A:Around}{E:Value→Shared→Prop}{s:Shared}{tg:Expr}{it:Addr}{u:Value}{o:Obj}{n:String}{vs:Array Value}{Q:Unit→Shared→Prop}(ho:s.heap.get? it=some o)(hc:o.cls=.type n)(hd:o.data=.fields vs)
  (hn:["enumerate", "zip", "dict_itemiterator", "dict_reverseitemiterator", "odict_iterator", "itertools.zip_longest", "itertools.pairwise"].contains n=false) (hQ:Q () s):wpAny M A (letOwnedTupleGo tg (.ref it) u) Q E s:=by
 unfold letOwnedTupleGo
 cases tg <;> first
  | exact wpAny_pure hQ
  | (cases u <;> first
    | exact wpAny_pure hQ
    | (refine wpAny_bind (wpAny_load ho ?_)
       rw[hc,hd]
       show wpAny M A (if (["enumerate", "zip", "dict_itemiterator", "dict_reverseitemiterator", "odict_iterator", "itertools.zip_longest", "itertools.pairwise"].contains n&&vs[0]?==some (rawInt _))=true then _ else _) Q E s
       rw[if_neg (by intro h;rw[hn,Bool.false_and] at h;cases h)]
       exact wpAny_pure hQ))
noncomputable def Itl(K:Frag)(a:Addr):It:=
 ⟨fun i H=>∃xs x,SqL K H a xs∧xs[i]?=some x,fun i H x H'=>H'=H∧∀xs,SqL K H a xs→xs[i]?=some x,fun i H=>∃xs,SqL K H a xs∧xs.length≤i⟩
noncomputable def Itt(K:Frag)(a:Addr):It:=
 ⟨fun i H=>∃xs x,SqT K H a xs∧xs[i]?=some x,fun i H x H'=>H'=H∧∀xs,SqT K H a xs→xs[i]?=some x,fun i H=>∃xs,SqT K H a xs∧xs.length≤i⟩
noncomputable def Itr(lo:Int)(n:Nat):It:=⟨fun i _=>i<n,fun i H x H'=>H'=H∧x=.int (lo+i),fun i _=>n≤i⟩
theorem XT{P:Program}{w:World}{K:Frag}{tg:Expr}(a it:Addr):Vf P w K tg (Itl K a) [it] it (fun i h=>h.IsListIter it a i) where
 mem:=by simp
 obj:=fun i h st b hb=>by
  have e:b=it:=by simpa using hb
  subst e
  refine byc fun zG_=>?_
  obtain⟨o,e,c,d⟩:=st
  refine zG_ ?_
  exact⟨o,e,fun v z=>by rw[d] at z;cases z⟩
 keep:=fun i h h' st k=>st.at fun o e=>k it (by simp) o e
 item:=by
  intro X hP hw hK hc i pins s σ H E I hf st hg
  subst hP hw hK
  refine byc fun zG_=>?_
  obtain⟨xs,x,hq,hx⟩:=hg
  obtain⟨its,rv,p,hz⟩:=I.list hq
  obtain⟨u,hu,ru⟩:=rv.get hx
  obtain⟨f0,f1,f2,f3,f4,f5⟩:=hf it (by simp)
  refine zG_ ?_
  refine wpAny_pyNext_list_item st p.isList (x:=u) (by simpa using hu) fun h' st' sb=>?_
  have I1:Inv X pins σ H { s with heap:=h' }:=I.turned (t':=s.toks) (fun b o hb e=>(sb.2 b hb).trans e) f0 f1 f3 f4 f5
  refine byc fun zG_=>?_
  obtain⟨o,e,c,d⟩:=id st'
  refine zG_ ?_
  exact⟨u,rfl,V2 (s:={ s with heap:=h' }) e c d (by decide) ⟨x,H,I1,ru,⟨rfl,fun ys hy=>by rw[I.list_inj hy hq];exact hx⟩,st',fun b hb=>(hf b hb).1⟩⟩
 done:=by
  intro X hP hw hK hc i pins s σ H E I hf st hg
  subst hP hw hK
  refine byc fun zG_=>?_
  obtain⟨xs,hq,hx⟩:=hg
  obtain⟨its,rv,p,hz⟩:=I.list hq
  obtain⟨f0,f1,f2,f3,f4,f5⟩:=hf it (by simp)
  refine zG_ ?_
  have hl:=rv.length
  exact wpAny_pyNext_list_end (I.ok.hd hc) st p.isList (by simp;lia) fun h' eb=>⟨rfl,I.turned (t':=s.toks) (fun b o hb e=>eb b o hb e) f0 f1 f3 f4 f5⟩
 self:=fun _ _ _ _ _ st h=>wpAny_pyIter_listiter st h
theorem Ui{P:Program}{w:World}{K:Frag}{tg:Expr}(a it:Addr):Vf P w K tg (Itt K a) [it] it (fun i h=>h.IsTupleIter it a i) where
 mem:=by simp
 obj:=fun i h st b hb=>by
  have e:b=it:=by simpa using hb
  subst e
  refine byc fun zG_=>?_
  obtain⟨o,e,c,d⟩:=st
  refine zG_ ?_
  exact⟨o,e,fun v z=>by rw[d] at z;cases z⟩
 keep:=fun i h h' st k=>st.at fun o e=>k it (by simp) o e
 item:=by
  intro X hP hw hK hc i pins s σ H E I hf st hg
  subst hP hw hK
  refine byc fun zG_=>?_
  obtain⟨xs,x,hq,hx⟩:=hg
  obtain⟨its,rv,p,hz⟩:=I.tuple hq
  obtain⟨u,hu,ru⟩:=rv.get hx
  obtain⟨f0,f1,f2,f3,f4,f5⟩:=hf it (by simp)
  refine zG_ ?_
  refine wpAny_pyNext_tuple_item st (show s.heap.IsTuple a its.toArray from p) (x:=u) (by simpa using hu) fun h' st' sb=>?_
  have I1:Inv X pins σ H { s with heap:=h' }:=I.turned (t':=s.toks) (fun b o hb e=>(sb.2 b hb).trans e) f0 f1 f3 f4 f5
  refine byc fun zG_=>?_
  obtain⟨o,e,c,d⟩:=id st'
  refine zG_ ?_
  exact⟨u,rfl,V2 (s:={ s with heap:=h' }) e c d (by decide) ⟨x,H,I1,ru,⟨rfl,fun ys hy=>by rw[I.tuple_inj hy hq];exact hx⟩,st',fun b hb=>(hf b hb).1⟩⟩
 done:=by
  intro X hP hw hK hc i pins s σ H E I hf st hg
  subst hP hw hK
  refine byc fun zG_=>?_
  obtain⟨xs,hq,hx⟩:=hg
  obtain⟨its,rv,p,hz⟩:=I.tuple hq
  obtain⟨f0,f1,f2,f3,f4,f5⟩:=hf it (by simp)
  refine zG_ ?_
  have hl:=rv.length
  exact wpAny_pyNext_tuple_end (I.ok.hd hc) st (show s.heap.IsTuple a its.toArray from p) (by simp;lia) fun h' eb=>⟨rfl,I.turned (t':=s.toks) (fun b o hb e=>eb b o hb e) f0 f1 f3 f4 f5⟩
 self:=fun _ _ _ _ _ st h=>wpAny_pyIter_tupleiter st h
theorem Uj{P:Program}{w:World}{K:Frag}{tg:Expr}(it:Addr)(lo:Int)(n:Nat):Vf P w K tg (Itr lo n) [it] it (fun i h=>IsRangeIter h it (lo+(i:Nat)*1) ((n:Int)-(i:Nat)) 1) where
 mem:=by simp
 obj:=fun i h st b hb=>by
  have e:b=it:=by simpa using hb
  subst e
  exact⟨_,st,fun v z=>by
   have z':Data.fields _=Data.cell v:=z
   cases z'⟩
 keep:=fun i h h' st k=>k it (by simp) _ st
 item:=by
  intro X hP hw hK hc i pins s σ H E I hf st hg
  subst hP hw hK
  refine byc fun zG_=>?_
  obtain⟨f0,f1,f2,f3,f4,f5⟩:=hf it (by simp)
  refine zG_ ?_
  have W:=Walks.range (prog:=X.prog) (w:=X.w) (I.ok.hd hc) it lo 1 n
  refine W.item i s _ _ hg st fun v h' tk hv st' kk=>?_
  obtain⟨t,rfl⟩:=hv
  have I1:Inv X pins σ H { s with heap:=h',toks:=tk }:=I.turned (fun b o hb e=>kk b o (by simpa using hb) e) f0 f1 f3 f4 f5
  refine⟨_,rfl,V2 (s:={ s with heap:=h',toks:=tk }) (n := "range_iterator") st' rfl rfl (by decide) ⟨.int (lo+i),H,I1,⟨t,?_⟩,⟨rfl,rfl⟩,st',fun b hb=>(hf b hb).1⟩⟩
  rw[Int.mul_one]
 done:=by
  intro X hP hw hK hc i pins s σ H E I hf st hg
  subst hP hw hK
  refine byc fun zG_=>?_
  obtain⟨f0,f1,f2,f3,f4,f5⟩:=hf it (by simp)
  refine zG_ ?_
  exact wpAny_pyNext_range_end (I.ok.hd hc) st (by have:n≤i:=hg;lia) fun h' eb=>⟨rfl,I.turned (t':=s.toks) (fun b o hb e=>eb b o hb e) f0 f1 f3 f4 f5⟩
 self:=fun _ _ _ _ _ st h=>wpAny_pyIter_rangeiter st h
section
variable{X:Cx}{tg:Expr}
noncomputable def iList(K:Frag)(tl:TE):TI:=fun σ H R=>tl σ H fun x H1=>∃a,x=.ref a∧(∃xs,SqL K H1 a xs)∧R (Itl K a) H1
theorem Jv{l:Expr}{tl:TE}(hl:PE X l tl):PI X tg l (iList X.K tl):=by
 intro pins s σ H R I h
 refine thn (hl pins s σ H _ I h) fun v s1 z_=>?_
 refine byc fun zG_=>?_
 obtain⟨x,H1,I1,r1,q1⟩:=z_
 obtain⟨a,e,⟨xs,hq⟩,q⟩:=q1
 refine zG_ ?_
 subst e
 cases r1
 refine byc fun zG_=>?_
 obtain⟨its,rv,p,hz⟩:=I1.list hq
 refine zG_ ?_
 refine wpAny_pyIter_list p.isList ?_
 refine⟨s1.heap.objs.size,[s1.heap.objs.size],_,_,H1,rfl,I1.kept (t':=s1.toks) fun b o e=>get?_push_of_some _ e,XT a _,⟨_,Heap.get?_push_size _ rfl,rfl,rfl⟩,fun b hb=>?_,q⟩
 have e:b=s1.heap.objs.size:=by simpa using hb
 subst e
 exact I1.fpOk (le_refl _) (I1.hok.fresh (le_refl _))
theorem Vu{pins:List (Addr×Obj)}{σ:St}{H:Hp}{s:Shared}{R:It→Hp→Prop}{E:Value→Shared→Prop}{lo hi:Int}{t u v:Tok}{tk:Nat}(I:Inv X pins σ H s)(h1 : -(2 ^ 62)≤lo)(h2:lo<2 ^ 62)(h3 : -(2 ^ 62)≤hi)(h4:hi<2 ^ 62)
  (q:R (Itr lo (hi-lo).toNat) H):wpAny (model X.prog X.w) X.A (pyIter (.ref s.heap.objs.size)) (PIE X pins σ tg R) E { s with heap:=s.heap.push { cls:=.type "range", data:=.fields #[.int lo t,.int hi u,.int 1 v] },toks:=tk }:=by
 refine wpAny_pyIter_range (IsRange.new ..) (small_one h1 h2 h3 h4) ?_
 have I1:Inv X pins σ H { s with heap:=s.heap.push { cls:=.type "range", data:=.fields #[.int lo t,.int hi u,.int 1 v] },toks:=tk }:=I.kept fun b o e=>get?_push_of_some _ e
 refine⟨(s.heap.push { cls:=.type "range", data:=.fields #[.int lo t,.int hi u,.int 1 v] }).objs.size,[(s.heap.push { cls:=.type "range", data:=.fields #[.int lo t,.int hi u,.int 1 v] }).objs.size],_,_,H,rfl,
  I1.kept (t':=tk) fun b o e=>get?_push_of_some _ e,Uj _ lo (hi-lo).toNat,?_,fun b hb=>?_,q⟩
 ·have e1:lo+((0:Nat):Int)*1=lo:=by simp
  have e2:(((hi-lo).toNat:Nat):Int)-((0:Nat):Int)=Builtin.Range.rangeSize lo hi 1:=by rw[rangeSize_one];split <;> lia
  show IsRangeIter _ _ (lo+((0:Nat):Int)*1) ((((hi-lo).toNat:Nat):Int)-((0:Nat):Int)) 1
  rw[e1,e2]
  exact Heap.get?_push_size _ rfl
 ·have e:b=(s.heap.push { cls:=.type "range", data:=.fields #[.int lo t,.int hi u,.int 1 v] }).objs.size:=by simpa using hb
  subst e
  exact I1.fpOk (le_refl _) (I1.hok.fresh (le_refl _))
noncomputable def iRng1(ta:TA):TI:=fun σ H R=>ta σ H fun vs H1=>∃j:Int,vs=[.int j]∧-(2 ^ 62)≤j∧j<2 ^ 62∧R (Itr 0 j.toNat) H1
noncomputable def iRng2(ta:TA):TI:=fun σ H R=>ta σ H fun vs H1=>∃i j:Int,vs=[.int i,.int j]∧(-(2 ^ 62)≤i∧i<2 ^ 62∧-(2 ^ 62)≤j∧j<2 ^ 62)∧R (Itr i (j-i).toNat) H1
theorem Qu{a:Expr}{ta:TA}{p pos:Pos}(hg:Gl X "range")(hm:X.mg "range" = none)(ha:PA X [a] ta)(hs:starEach [a] X.env=[(false,eval a X.env)]:=by rfl):PI X tg (.Call (.Name "range" p) [a] [] pos) (iRng1 ta):=by
 intro pins s σ H R I h
 refine Call_ (uv I hg hm boot_range (PyProof.Rows.callWith_type1 (thn (ha pos pins s σ H _ I h) fun us s1 z_=>?_) hs rfl))
 refine byc fun zG_=>?_
 obtain⟨vs,H1,I1,r1,q1⟩:=z_
 obtain⟨j,e,q1,q2,q⟩:=q1
 refine zG_ ?_
 subst e
 cases r1 with
 |cons r rr=>
  cases rr
  obtain⟨t,rfl⟩:=r
  exact call_range_1 (Vu I1 (by lia) (by lia) q1 q2 (by simpa using q))
theorem Qt{a b:Expr}{ta:TA}{p pos:Pos}(hg:Gl X "range")(hm:X.mg "range" = none)(ha:PA X [a,b] ta)(hs:starEach [a,b] X.env=[(false,eval a X.env),(false,eval b X.env)]:=by rfl)(hs2:starEach [b] X.env=[(false,eval b X.env)]:=by rfl) :
  PI X tg (.Call (.Name "range" p) [a,b] [] pos) (iRng2 ta):=by
 intro pins s σ H R I h
 refine Call_ (uv I hg hm boot_range (PyProof.Rows.callWith_type1 (thn (ha pos pins s σ H _ I h) fun us s1 z_=>?_) (by rw[hs,hs2]) (by rw[hs2];rfl)))
 refine byc fun zG_=>?_
 obtain⟨vs,H1,I1,r1,q1⟩:=z_
 obtain⟨i,j,e,⟨q1,q2,q3,q4⟩,q⟩:=q1
 refine zG_ ?_
 subst e
 cases r1 with
 |cons r rr=>
  cases rr with
  |cons r' rr=>
   cases rr
   obtain⟨t,rfl⟩:=r
   obtain⟨t',rfl⟩:=r'
   exact call_range_2 (Vu I1 q1 q2 q3 q4 q)
noncomputable def tFor(wi:TI)(g:TG)(tb:TS):TS:=fun D σ H=>wi σ H fun J H1=>∃W:Nat→Nat→St→Hp→Prop,(∃m,W 0 m σ H1)∧∀i m σ H,W i m σ H →
 (J.stop i H∧D.nx σ H)∨(J.go i H∧∃N:St→Hp→Prop,(∀σ' H',N σ' H'→∃m',m'<m∧W (i+1) m' σ' H')∧∀x H',J.yld i H x H'→g x σ H' fun σ2 H2=>tb { D with nx:=N,ct:=N,bk:=D.nx } σ2 H2)
noncomputable def YJ(fp:List Addr)(h:Heap):List (Addr×Obj):=fp.filterMap fun b=>(h.get? b).map fun o=>(b,o)
theorem uu{fp:List Addr}{h:Heap}{b:Addr}{o:Obj}(hb:b∈fp)(e:h.get? b=some o):(b,o)∈YJ fp h:=List.mem_filterMap.mpr ⟨b,hb,by rw[e];rfl⟩
theorem QJ{fp:List Addr}{h:Heap}{p:Addr×Obj}(hp:p∈YJ fp h):p.1∈fp∧h.get? p.1=some p.2:=by
 obtain⟨b,hb,e⟩:=List.mem_filterMap.mp hp
 cases q:h.get? b with
 |none=>rw[q] at e;cases e
 |some o=>
  rw[q] at e
  have e':(b,o)=p:=Option.some.inj e
  subst e'
  exact⟨hb,q⟩
theorem Inv.pinned{pins:List (Addr×Obj)}{σ:St}{H:Hp}{s:Shared}{fp:List Addr}(I:Inv X pins σ H s)(hf:∀b∈fp,XO X pins H b)(ho:∀b∈fp,∃o,s.heap.get? b=some o∧∀v,o.data≠.cell v):Inv X (pins++YJ fp s.heap) σ H s:=
 I.pins_of fun p hp=>(mem_append.mp hp).elim (fun z=>I.pin p (mem_append_right _ z)) fun z=>by
  refine byc fun zG_=>?_
  obtain⟨hb,e⟩:=QJ z
  obtain⟨f0,f1,f2,_⟩:=hf p.1 hb
  obtain⟨o,e',d⟩:=ho p.1 hb
  refine zG_ ?_
  rw[e] at e';cases e'
  exact⟨e,f0,f1,f2,d⟩
theorem Inv.unpinned{pins pl:List (Addr×Obj)}{σ:St}{H:Hp}{s:Shared}(I:Inv X (pins++pl) σ H s):Inv X pins σ H s:=I.pins_of fun p hp=>I.pin p (mem_append_right _ (mem_append_left _ hp))
theorem zd0{iter:Expr}{body:List Stmt}{wi:TI}{g:TG}{tb:TS}{pos:Pos}(hp:PassesOwn (model X.prog X.w) X.A X.env X.xe)(hc:X.calm=true)(hi:PI X tg iter wi)(hg:PG X tg g)(hb:PSs X body tb)
  (hs:∀x,foldedSetIterable iter X.env x=pure x:=by intro _;rfl):PS X (.For tg iter body [] pos) (tFor wi g tb):=by
 intro pins s σ H D I h
 refine wpAny_For (thn (hi pins s σ H _ I h) fun v s1 h1=>thn h1 fun itv s2 h2=>?_) hs
 refine byc fun zG_=>?_
 obtain⟨it,fp,tn,J,H2,e,I2,T,st2,f2,W,⟨m0,w0⟩,turn⟩:=h2
 refine zG_ ?_
 subst e
 have stat:∀{H':Hp},(∀b∈fp,H' b=none)→∀b∈fp,XO X pins H' b:=fun hn b hb=>⟨hn b hb,(f2 b hb).2⟩
 refine codeAny_forLoop_any (fun n s'=>∃i σ' H',Inv X pins σ' H' s'∧tn i s'.heap∧(∀b∈fp,H' b=none)∧W i n σ' H') ?_ m0 ⟨0,σ,H2,I2,st2,fun b hb=>(f2 b hb).1,w0⟩
 rintro n s3 ⟨i,σ3,H3,I3,st3,fr3,w3⟩
 rcases turn i n σ3 H3 w3 with ⟨stop,qn⟩|⟨go,N,hN,step⟩
 ·refine wpAny_passesOwn hp (thn (T.done X rfl rfl rfl hc i pins s3 σ3 H3 X.xe I3 (stat fr3) st3 stop) fun r s4 z_=>?_)
  obtain⟨hr,I4⟩:=z_
  subst hr
  exact wpAny_execs_nil ⟨σ3,H3,I4,qn⟩
 ·refine wpAny_passesOwn hp (thn (T.item X rfl rfl rfl hc i pins s3 σ3 H3 X.xe I3 (stat fr3) st3 go) fun r s4 z_=>?_)
  obtain⟨u,hr,h4⟩:=z_
  subst hr
  refine wpAny_passesOwn hp (thn h4 fun _ s5 z_=>?_)
  refine byc fun zG_=>?_
  obtain⟨x,H5,I5,r5,y5,st5,fr5⟩:=z_
  refine zG_ ?_
  have I5':=I5.pinned (stat fr5) (T.obj _ _ st5)
  refine wpAny_passesOwn hp (thn (hg _ s5 σ3 H5 x u _ I5' r5 (step x H5 y5)) fun _ s6 z_=>?_)
  refine byc fun zG_=>?_
  obtain⟨σ6,H6,I6,q6⟩:=z_
  refine zG_ ?_
  refine wpAny_passesOwn hp (thn (hb _ s6 σ6 H6 _ I6 q6) fun f s7 q7=>?_)
  have again:∀{σ7:St} {H7:Hp},Inv X (pins++YJ fp s5.heap) σ7 H7 s7→N σ7 H7→∃m,m<n∧∃i σ' H',Inv X pins σ' H' s7∧tn i s7.heap∧(∀b∈fp,H' b=none)∧W i m σ' H':=fun {σ7 H7} I7 n7=>by
   obtain⟨m',hm,w7⟩:=hN σ7 H7 n7
   refine⟨m',hm,i+1,σ7,H7,I7.unpinned,T.keep _ _ _ st5 fun b hb o e=>(I7.pin (b,o) (mem_append_right _ (mem_append_right _ (uu hb e)))).1,fun b hb=>?_,w7⟩
   obtain⟨o,e,d⟩:=T.obj _ _ st5 b hb
   exact(I7.pin (b,o) (mem_append_right _ (mem_append_right _ (uu hb e)))).2.1
  cases f with
  |next=>obtain⟨σ7,H7,I7,n7⟩:=q7;exact again I7 n7
  |cont=>obtain⟨σ7,H7,I7,n7⟩:=q7;exact again I7 n7
  |brk=>obtain⟨σ7,H7,I7,q7⟩:=q7;exact⟨σ7,H7,I7.unpinned,q7⟩
  |ret v=>obtain⟨x7,σ7,H7,I7,r7,q7⟩:=q7;exact⟨x7,σ7,H7,I7.unpinned,r7,q7⟩
end
noncomputable abbrev R2:=V→V→Hp→VK→Prop
noncomputable def OpR(X:Cx)(f:Value→Value→Sem Value)(r:R2):Prop:=
 ∀(pins:List (Addr×Obj)) (s:Shared) (σ:St) (H:Hp) (x y:V) (v u:Value) (Q:VK),Inv X pins σ H s→RelV x v→RelV y u→r x y H Q →
  wpAny (model X.prog X.w) X.A (f v u) (EP X pins σ Q) X.xe s
noncomputable def UnR(X:Cx)(f:Value→Sem Value)(r:V→Hp→VK→Prop):Prop:=
 ∀(pins:List (Addr×Obj)) (s:Shared) (σ:St) (H:Hp) (x:V) (v:Value) (Q:VK),Inv X pins σ H s→RelV x v→r x H Q →
  wpAny (model X.prog X.w) X.A (f v) (EP X pins σ Q) X.xe s
noncomputable def CallR(X:Cx)(f:Value)(r:List V→Hp→VK→Prop):Prop:=
 ∀(pins:List (Addr×Obj)) (s:Shared) (σ:St) (H:Hp) (xs:List V) (us:List Value) (Q:VK),Inv X pins σ H s→Vals xs us→r xs H Q →
  wpAny (model X.prog X.w) X.A (call f us) (EP X pins σ Q) X.xe s
noncomputable def TruR(X:Cx)(r:V→Hp→(Bool→Hp→Prop)→Prop):Prop:=
 ∀(pins:List (Addr×Obj)) (s:Shared) (σ:St) (H:Hp) (x:V) (v:Value) (Q:Bool→Hp→Prop),Inv X pins σ H s→RelV x v→r x H Q →
  wpAny (model X.prog X.w) X.A (truthy v) (TP X pins σ Q) X.xe s
noncomputable def tOp(r:R2)(ta tb:TE):TE:=fun σ H Q=>ta σ H fun x H1=>tb σ H1 fun y H2=>r x y H2 Q
noncomputable def tUn(r:V→Hp→VK→Prop)(ta:TE):TE:=fun σ H Q=>ta σ H fun x H1=>r x H1 Q
noncomputable def rI(C:Int→Int→Prop)(g:Int→Int→V):R2:=fun x y H Q=>∃i j,x=.int i∧y=.int j∧C i j∧Q (g i j) H
noncomputable def rI0(g:Int→Int→V):R2:=fun x y H Q=>∃i j,x=.int i∧y=.int j∧Q (g i j) H
noncomputable def rU(g:Int→V):V→Hp→VK→Prop:=fun x H Q=>∃i,x=.int i∧Q (g i) H
section
variable{X:Cx}{a b c:Expr}{ta tb tc:TE}{pos:Pos}
theorem zj5(ha:PE X a ta)(hb:PE X b tb){pins:List (Addr×Obj)}{s:Shared}{σ:St}{H:Hp}{R:V→V→Hp→Prop}(I:Inv X pins σ H s)
  (h:ta σ H fun x H1=>tb σ H1 fun y H2=>R x y H2) {Q:Value→Shared→Prop} {f:Value→Value→Sem Value}
  (hf:∀v u s2 x y H2,Inv X pins σ H2 s2→RelV x v→RelV y u→R x y H2→wpAny (model X.prog X.w) X.A (f v u) Q X.xe s2) :
  wpAny (model X.prog X.w) X.A (eval a X.env) (fun v s₁=>wpAny (model X.prog X.w) X.A (eval b X.env) (fun u s₂=>wpAny (model X.prog X.w) X.A (f v u) Q X.xe s₂) X.xe s₁) X.xe s:=by
 refine thn (ha pins s σ H _ I h) fun v s1 z_=>?_
 refine byc fun zG_=>?_
 obtain⟨x,H1,I1,r1,q1⟩:=z_
 refine zG_ ?_
 refine thn (hb pins s1 σ H1 _ I1 q1) fun u s2 z_=>?_
 refine byc fun zG_=>?_
 obtain⟨y,H2,I2,r2,q2⟩:=z_
 refine zG_ ?_
 exact hf v u s2 x y H2 I2 r1 r2 q2
theorem pe_op{op:Operator}{r:R2}(ho:OpR X (binaryOp op) r)(ha:PE X a ta)(hb:PE X b tb):PE X (.BinOp a op b pos) (tOp r ta tb):=by
 intro pins s σ H Q I h
 exact wpAny_BinOp (zj5 ha hb I h fun v u s2 x y H2 I2 rx ry q=>ho pins s2 σ H2 x y v u Q I2 rx ry q)
theorem pe_un{op:UnaryOp}{r:V→Hp→VK→Prop}(ho:UnR X (unaryOp op) r)(ha:PE X a ta):PE X (.UnaryOp op a pos) (tUn r ta):=by
 intro pins s σ H Q I h
 exact UnaryOp_ (thn (ha pins s σ H _ I h) fun v s1 ⟨x,H1,I1,r1,q1⟩=>ho pins s1 σ H1 x v Q I1 r1 q1)
theorem opI{f:Value→Value→Sem Value}{C:Int→Int→Prop}{g:Int→Int→Int}
  (rule:∀(i j:Int) (t u:Tok) (s:Shared) (Q:Value→Shared→Prop) (E:Value→Shared→Prop),C i j→Q (.int (g i j) s.toks) { s with toks:=s.toks+1 }→wpAny (model X.prog X.w) X.A (f (.int i t) (.int j u)) Q E s) :
  OpR X f (rI C fun i j=>.int (g i j)):=by
 intro pins s σ H x y v u Q I rx ry h
 refine byc fun zG_=>?_
 obtain⟨i,j,rfl,rfl,hc,q⟩:=h
 obtain⟨t,rfl⟩:=rx
 obtain⟨t',rfl⟩:=ry
 refine zG_ ?_
 exact rule i j t t' s _ _ hc ⟨.int (g i j),H,I.tok _,⟨_,rfl⟩,q⟩
theorem opI0{f:Value→Value→Sem Value}{g:Int→Int→Int}
  (rule:∀(i j:Int) (t u:Tok) (s:Shared) (Q:Value→Shared→Prop) (E:Value→Shared→Prop),Q (.int (g i j) s.toks) { s with toks:=s.toks+1 }→wpAny (model X.prog X.w) X.A (f (.int i t) (.int j u)) Q E s) :
  OpR X f (rI0 fun i j=>.int (g i j)):=by
 intro pins s σ H x y v u Q I rx ry h
 refine byc fun zG_=>?_
 obtain⟨i,j,rfl,rfl,q⟩:=h
 obtain⟨t,rfl⟩:=rx
 obtain⟨t',rfl⟩:=ry
 refine zG_ ?_
 exact rule i j t t' s _ _ ⟨.int (g i j),H,I.tok _,⟨_,rfl⟩,q⟩
theorem zf4{f:Value→Value→Sem Value}{g:Int→Int→Bool}
  (rule:∀(i j:Int) (t u:Tok) (s:Shared) (Q:Value→Shared→Prop) (E:Value→Shared→Prop),Q (.bool (g i j)) s→wpAny (model X.prog X.w) X.A (f (.int i t) (.int j u)) Q E s) :
  OpR X f (rI0 fun i j=>.bl (g i j)):=by
 intro pins s σ H x y v u Q I rx ry h
 refine byc fun zG_=>?_
 obtain⟨i,j,rfl,rfl,q⟩:=h
 obtain⟨t,rfl⟩:=rx
 obtain⟨t',rfl⟩:=ry
 refine zG_ ?_
 exact rule i j t t' s _ _ ⟨.bl (g i j),H,I,rfl,q⟩
noncomputable def CDiv(i j:Int):Prop:=0<j∧j<1073741824
noncomputable def CMul(i j:Int):Prop:=(-(2 ^ 64)<i∧i<2 ^ 64)∨(-(2 ^ 64)<j∧j<2 ^ 64)
theorem CMul.ok{i j:Int}(h:CMul i j):IntMulOk i j:=by
 rcases h with ⟨h1,h2⟩|⟨h1,h2⟩
 ·exact .of_left (intBits_le_64 h1 h2)
 ·exact .of_right (intBits_le_64 h1 h2)
theorem op_add:OpR X (binaryOp .Add) (rI0 fun i j=>.int (i+j)):=opI0 fun _ _ _ _ _ _ _ q=>add_int q
theorem ze8:OpR X (binaryOp .Sub) (rI0 fun i j=>.int (i-j)):=opI0 fun _ _ _ _ _ _ _ q=>sub_int q
theorem op_mul:OpR X (binaryOp .Mult) (rI CMul fun i j=>.int (i*j)):=opI fun _ _ _ _ _ _ _ hc q=>mul_int q hc.ok
theorem Lc:OpR X (binaryOp .FloorDiv) (rI CDiv fun i j=>.int (i / j)):=opI fun i j _ _ _ _ _ hc q=>by
 have h1:(0:Int)<j:=hc.1
 have h2:j<1073741824:=hc.2
 exact floordiv_int (by lia) (by rw[Int.fdiv_eq_ediv_of_nonneg i (by lia)];exact q) (.inl (PyProof.noPylong_small (by lia)))
theorem zf0:OpR X (binaryOp .Mod) (rI (fun _ j=>0<j) fun i j=>.int (i%j)):=opI fun i j _ _ _ _ _ hc q=>by
 have h1:(0:Int)<j:=hc
 exact mod_int' (by lia) (by rw[Int.fmod_eq_emod_of_nonneg i (by lia)];exact q)
theorem unI{f:Value→Sem Value}{g:Int→Int}
  (rule:∀(i:Int) (t:Tok) (s:Shared) (Q:Value→Shared→Prop) (E:Value→Shared→Prop),Q (.int (g i) s.toks) { s with toks:=s.toks+1 }→wpAny (model X.prog X.w) X.A (f (.int i t)) Q E s) :
  UnR X f (rU fun i=>.int (g i)):=by
 intro pins s σ H x v Q I rx h
 refine byc fun zG_=>?_
 obtain⟨i,rfl,q⟩:=h
 obtain⟨t,rfl⟩:=rx
 refine zG_ ?_
 exact rule i t s _ _ ⟨.int (g i),H,I.tok _,⟨_,rfl⟩,q⟩
theorem zb8:UnR X (unaryOp .USub) (rU fun i=>.int (-i)):=unI fun _ _ _ _ _ q=>neg_int q
end
noncomputable def scal:V→V→Bool
 |.non,.non=>true | .non,.int _=>true | .int _,.non=>true | .non,.bl _=>true | .bl _,.non=>true | .non,.str _=>true | .str _,.non=>true
 |.int _,.int _=>true | .bl _,.bl _=>true | .str _,.str _=>true | .byt _,.byt _=>true
 |.int _,.str _=>true | .str _,.int _=>true | .bl _,.str _=>true | .str _,.bl _=>true
 |_,_=>false
noncomputable def rEq:R2:=fun x y H Q=>scal x y=true∧Q (.bl (decide (x=y))) H
noncomputable def rNe:R2:=fun x y H Q=>scal x y=true∧Q (.bl (!decide (x=y))) H
theorem Yy{i j:Int}:decide (V.int i=V.int j)=(i==j):=by
 rw[Bool.eq_iff_iff]
 simp
theorem M3{i j:Bool}:decide (V.bl i=V.bl j)=(i==j):=by
 rw[Bool.eq_iff_iff]
 simp
theorem Yx{i j:Str}:decide (V.str i=V.str j)=(i==j):=by
 rw[Bool.eq_iff_iff]
 simp
theorem J4{i j:Array UInt8}:decide (V.byt i=V.byt j)=(i.toList==j.toList):=by
 rw[Bool.eq_iff_iff]
 cases i
 cases j
 simp
section
variable{X:Cx}{a b c:Expr}{ta tb tc:TE}{pos:Pos}
theorem yg{pins:List (Addr×Obj)}{σ:St}{H:Hp}{s:Shared}{Q:VK}{k k':Bool}(I:Inv X pins σ H s)(q:Q (.bl k) H)(e:k=k'):EP X pins σ Q (.bool k') s:=by
 subst e
 exact⟨.bl k,H,I,rfl,q⟩
theorem op_eq:OpR X (compareOp .Eq) rEq:=by
 intro pins s σ H x y v u Q I rx ry h
 obtain⟨hs,q⟩:=h
 cases x with
 |non=>
  cases rx
  cases y with
  |non=>cases ry;exact PySem.EqNone.eq_none_none (yg I q (by simp))
  |bl j=>cases ry;exact PySem.EqNone.eq_none_bool (yg I q (by simp))
  |int j=>obtain⟨t',rfl⟩:=ry;exact PySem.EqNone.eq_none_int (yg I q (by simp))
  |str j=>obtain⟨t',rfl⟩:=ry;exact PySem.EqNone.eq_none_str (yg I q (by simp))
  |_=>exact absurd (show false=true from hs) Bool.false_ne_true
 |bl i=>
  cases rx
  cases y with
  |non=>cases ry;exact PySem.EqNone.eq_bool_none (yg I q (by simp))
  |bl j=>cases ry;exact eq_bool (yg I q M3)
  |str j=>obtain⟨t',rfl⟩:=ry;exact PySem.EqMixed.eq_bool_str (yg I q (by simp))
  |_=>exact absurd (show false=true from hs) Bool.false_ne_true
 |int i=>
  obtain⟨t,rfl⟩:=rx
  cases y with
  |non=>cases ry;exact PySem.EqNone.eq_int_none (yg I q (by simp))
  |int j=>obtain⟨t',rfl⟩:=ry;exact eq_int (yg I q Yy)
  |str j=>obtain⟨t',rfl⟩:=ry;exact PySem.EqMixed.eq_int_str (yg I q (by simp))
  |_=>exact absurd (show false=true from hs) Bool.false_ne_true
 |str i=>
  obtain⟨t,rfl⟩:=rx
  cases y with
  |non=>cases ry;exact PySem.EqNone.eq_str_none (yg I q (by simp))
  |bl j=>cases ry;exact PySem.EqMixed.eq_str_bool (yg I q (by simp))
  |int j=>obtain⟨t',rfl⟩:=ry;exact PySem.EqMixed.eq_str_int (yg I q (by simp))
  |str j=>obtain⟨t',rfl⟩:=ry;exact eq_str (yg I q Yx)
  |_=>exact absurd (show false=true from hs) Bool.false_ne_true
 |byt i=>
  obtain⟨t,rfl⟩:=rx
  cases y with
  |byt j=>obtain⟨t',rfl⟩:=ry;exact PySem.W.eq_bytes (yg I q J4)
  |_=>exact absurd (show false=true from hs) Bool.false_ne_true
 |_=>cases y <;> exact absurd (show false=true from hs) Bool.false_ne_true
theorem op_ne:OpR X (compareOp .NotEq) rNe:=by
 intro pins s σ H x y v u Q I rx ry h
 obtain⟨hs,q⟩:=h
 cases x with
 |non=>
  cases rx
  cases y with
  |non=>cases ry;exact PySem.EqNone.ne_none_none (yg I q (by simp))
  |bl j=>cases ry;exact PySem.EqNone.ne_none_bool (yg I q (by simp))
  |int j=>obtain⟨t',rfl⟩:=ry;exact PySem.EqNone.ne_none_int (yg I q (by simp))
  |str j=>obtain⟨t',rfl⟩:=ry;exact PySem.EqNone.ne_none_str (yg I q (by simp))
  |_=>exact absurd (show false=true from hs) Bool.false_ne_true
 |bl i=>
  cases rx
  cases y with
  |non=>cases ry;exact PySem.EqNone.ne_bool_none (yg I q (by simp))
  |bl j=>cases ry;exact ne_bool (yg I q (congrArg not M3))
  |str j=>obtain⟨t',rfl⟩:=ry;exact PySem.EqMixed.ne_bool_str (yg I q (by simp))
  |_=>exact absurd (show false=true from hs) Bool.false_ne_true
 |int i=>
  obtain⟨t,rfl⟩:=rx
  cases y with
  |non=>cases ry;exact PySem.EqNone.ne_int_none (yg I q (by simp))
  |int j=>obtain⟨t',rfl⟩:=ry;exact ne_int (yg I q (congrArg not Yy))
  |str j=>obtain⟨t',rfl⟩:=ry;exact PySem.EqMixed.ne_int_str (yg I q (by simp))
  |_=>exact absurd (show false=true from hs) Bool.false_ne_true
 |str i=>
  obtain⟨t,rfl⟩:=rx
  cases y with
  |non=>cases ry;exact PySem.EqNone.ne_str_none (yg I q (by simp))
  |bl j=>cases ry;exact PySem.EqMixed.ne_str_bool (yg I q (by simp))
  |int j=>obtain⟨t',rfl⟩:=ry;exact PySem.EqMixed.ne_str_int (yg I q (by simp))
  |str j=>obtain⟨t',rfl⟩:=ry;exact ne_str (yg I q (congrArg not Yx))
  |_=>exact absurd (show false=true from hs) Bool.false_ne_true
 |byt i=>
  obtain⟨t,rfl⟩:=rx
  cases y with
  |byt j=>obtain⟨t',rfl⟩:=ry;exact PySem.W.ne_bytes (yg I q (congrArg not J4))
  |_=>exact absurd (show false=true from hs) Bool.false_ne_true
 |_=>cases y <;> exact absurd (show false=true from hs) Bool.false_ne_true
theorem op_lt:OpR X (compareOp .Lt) (rI0 fun i j=>.bl (decide (i<j))):=zf4 fun _ _ _ _ _ _ _ q=>lt_int q
theorem op_gt:OpR X (compareOp .Gt) (rI0 fun i j=>.bl (decide (j<i))):=zf4 fun _ _ _ _ _ _ _ q=>gt_int q
theorem op_ge:OpR X (compareOp .GtE) (rI0 fun i j=>.bl (decide (j≤i))):=zf4 fun _ _ _ _ _ _ _ q=>ge_int q
theorem op_in_str:OpR X (compareOp .In) (fun x y H Q=>∃i j,x=.str i∧y=.str j∧Q (.bl (!(Builtin.Str.occurrences j i 0 j.length 1).isEmpty)) H):=by
 intro pins s σ H x y v u Q I rx ry h
 refine byc fun zG_=>?_
 obtain⟨i,j,rfl,rfl,q⟩:=h
 obtain⟨t,rfl⟩:=rx
 obtain⟨t',rfl⟩:=ry
 refine zG_ ?_
 exact in_str (yg I q rfl)
theorem zf1:OpR X (compareOp .Is) (fun x y H Q=>y=.non∧Q (.bl (decide (x=.non))) H):=by
 intro pins s σ H x y v u Q I rx ry h
 obtain⟨rfl,q⟩:=h
 cases ry
 refine is_none_gen (yg I q ?_)
 cases x <;> first
  | (cases rx;rfl)
  | (obtain⟨t,rfl⟩:=rx;rfl)
theorem Lb:OpR X (compareOp .IsNot) (fun x y H Q=>y=.non∧Q (.bl (!decide (x=.non))) H):=by
 intro pins s σ H x y v u Q I rx ry h
 obtain⟨rfl,q⟩:=h
 cases ry
 refine isnot_none_gen (yg I q ?_)
 cases x <;> first
  | (cases rx;rfl)
  | (obtain⟨t,rfl⟩:=rx;rfl)
theorem op_notin_str:OpR X (compareOp .NotIn) (fun x y H Q=>∃i j,x=.str i∧y=.str j∧Q (.bl (!(!(Builtin.Str.occurrences j i 0 j.length 1).isEmpty))) H):=by
 intro pins s σ H x y v u Q I rx ry h
 refine byc fun zG_=>?_
 obtain⟨i,j,rfl,rfl,q⟩:=h
 obtain⟨t,rfl⟩:=rx
 obtain⟨t',rfl⟩:=ry
 refine zG_ ?_
 exact notIn_str (yg I q rfl)
theorem OpR.or{f:Value→Value→Sem Value}{r r':R2}(h:OpR X f r)(h':OpR X f r'):OpR X f (fun x y H Q=>r x y H Q∨r' x y H Q):=by
 intro pins s σ H x y v u Q I rx ry q
 rcases q with q|q
 ·exact h pins s σ H x y v u Q I rx ry q
 ·exact h' pins s σ H x y v u Q I rx ry q
theorem z9(b:Expr){op:CmpOp}(h:op≠.In:=by decide)(h2:op≠.NotIn:=by decide):behindInMarks op b=false:=by
 have e1:(op==CmpOp.In)=false:=by cases op <;> first|rfl|exact absurd rfl h
 have e2:(op==CmpOp.NotIn)=false:=by cases op <;> first|rfl|exact absurd rfl h2
 cases b <;> simp[behindInMarks,e1,e2]
theorem TY{op:CmpOp}{r:R2}(ho:OpR X (compareOp op) r)(ha:PE X a ta)(hb:PE X b tb)(hm:behindInMarks op b=false):PE X (.Compare a [op] [b] pos) (tOp r ta tb):=by
 intro pins s σ H Q I h
 exact wpAny_Compare1 (zj5 ha hb I h fun v u s2 x y H2 I2 rx ry q=>ho pins s2 σ H2 x y v u Q I2 rx ry q) hm
noncomputable def L7(t:TE):TT:=fun σ H Q=>t σ H fun x H'=>∃k,x=.bl k∧Q k H'
theorem WE{op:CmpOp}{r:R2}(ho:OpR X (compareOp op) r)(ha:PE X a ta)(hb:PE X b tb)(hm:behindInMarks op b=false):PT X (.Compare a [op] [b] pos) (L7 (tOp r ta tb)):=by
 intro pins s σ H Q I h
 refine wpAny_isTrue_Compare1 (thn (ha pins s σ H _ I h) fun v s1 ⟨x,H1,I1,r1,q1⟩=>thn (hb pins s1 σ H1 _ I1 q1) fun u s2 ⟨y,H2,I2,r2,q2⟩=>
  thn (ho pins s2 σ H2 x y v u _ I2 r1 r2 q2) fun c s3 ⟨z,H3,I3,r3,k,e,q3⟩=>?_) hm
 subst e
 cases r3
 exact wpAny_truthy_bool ⟨H3,I3,q3⟩
noncomputable def zk3(K:Frag)(x:V)(H:Hp)(k:Bool):Prop:=
 match x with
 |.non=>k=false
 |.bl b=>k=b
 |.int i=>k=(i != 0)
 |.str y=>y.length≤sizeLine∧k=((y.length:Int) != 0)
 |.byt y=>y.size≤sizeLine∧k=((y.size:Int) != 0)
 |.ref p=>(∃xs,SqL K H p xs∧k = !xs.isEmpty)∨(∃xs,SqT K H p xs∧k = !xs.isEmpty)∨∃kvs,H p=some (.dK kvs)∧k = !kvs.isEmpty
 |_=>False
theorem UV{κ:Type}{kvs:List (κ×V)}{vs:List (κ×Value)}(r:KV kvs vs):(!vs.isEmpty) = !kvs.isEmpty:=by
 cases r <;> rfl
theorem Y9{xs:List V}{its:List Value}(r:Vals xs its):(!its.toArray.isEmpty) = !xs.isEmpty:=by
 cases r <;> simp
theorem jG:(sizeLine:Nat)<2 ^ 63:=by rw[sizeLine_eq];decide
theorem tru_ok:TruR X (fun x H Q=>∃k,zk3 X.K x H k∧Q k H):=by
 intro pins s σ H x v Q I rx h
 obtain⟨k,e,q⟩:=h
 have hl:=jG
 have hs:sizeLine=16777216:=sizeLine_eq
 cases x with
 |non=>
  cases rx
  have e':k=false:=e
  subst e'
  exact truthy_none ⟨H,I,q⟩
 |bl b=>
  cases rx
  have e':k=b:=e
  subst e'
  exact wpAny_truthy_bool ⟨H,I,q⟩
 |int i=>
  obtain⟨t,rfl⟩:=rx
  have e':k=(i != 0):=e
  subst e'
  exact PySem.P.truthy_int ⟨H,I,q⟩
 |str y=>
  obtain⟨t,rfl⟩:=rx
  obtain⟨hy,e'⟩:y.length≤sizeLine∧k=((y.length:Int) != 0):=e
  subst e'
  exact PySem.P.truthy_str (by lia) ⟨H,I.tok _,q⟩
 |byt y=>
  obtain⟨t,rfl⟩:=rx
  obtain⟨hy,e'⟩:y.size≤sizeLine∧k=((y.size:Int) != 0):=e
  subst e'
  exact PySem.W.truthy_bytes (by lia) ⟨H,I.tok _,q⟩
 |ref p=>
  cases rx
  have e':(∃xs,SqL X.K H p xs∧k = !xs.isEmpty)∨(∃xs,SqT X.K H p xs∧k = !xs.isEmpty)∨∃kvs,H p=some (.dK kvs)∧k = !kvs.isEmpty:=e
  rcases e' with ⟨xs,hx,e'⟩|⟨xs,hx,e'⟩|⟨kvs,hx,e'⟩
  ·subst e'
   refine byc fun zG_=>?_
   obtain⟨its,r,pl,hz⟩:=I.list hx
   refine zG_ ?_
   have hlen:=r.length
   exact wpAny_truthy_list pl.isList (by simp only[size_toArray];lia) ⟨H,I.tok _,by rw[Y9 r];exact q⟩
  ·subst e'
   refine byc fun zG_=>?_
   obtain⟨its,r,pl,hz⟩:=I.tuple hx
   refine zG_ ?_
   have hlen:=r.length
   exact truthy_tuple pl (by simp only[size_toArray];lia) ⟨H,I.tok _,by rw[Y9 r];exact q⟩
  ·subst e'
   refine byc fun zG_=>?_
   obtain⟨hz,hS,vs,r,m⟩:kvs.length≤sizeLine∧(p==sysModules)=false∧∃vs,KV kvs vs∧s.heap.DictOf (WW X.prog X.w) p vs:=I.hok p _ hx
   refine zG_ ?_
   have hlen:kvs.length=vs.length:=Paired.length r
   exact wpAny_truthy_dict hS m (by lia) ⟨H,I.tok _,by rw[UV r];exact q⟩
 |_=>exact(show False from e).elim
theorem GK(ha:PE X a ta)(he:∀whole,isTrue a X.env whole=(do let v ← whole;standAt a.pos;holding [v] (truthy v))) :
  PT X a (fun σ H Q=>ta σ H fun x H'=>∃k,zk3 X.K x H' k∧Q k H'):=by
 intro pins s σ H Q I h
 exact isTrue_plain (thn (ha pins s σ H _ I h) fun v s1 ⟨x,H1,I1,r1,q1⟩=>tru_ok pins s1 σ H1 x v Q I1 r1 q1) (he _)
theorem op_add_str:OpR X (binaryOp .Add) (fun x y H Q=>∃i j,x=.str i∧y=.str j∧i.length+j.length≤sizeLine∧Q (.str (i++j)) H):=by
 intro pins s σ H x y v u Q I rx ry h
 refine byc fun zG_=>?_
 obtain⟨i,j,rfl,rfl,hz,q⟩:=h
 obtain⟨t,rfl⟩:=rx
 obtain⟨t',rfl⟩:=ry
 refine zG_ ?_
 exact add_str (fun t' tk=>⟨.str (i++j),H,I.tok _,⟨_,rfl⟩,q⟩) hz
theorem vals1{x:V}{us:List Value}(r:Vals [x] us):∃u,us=[u]∧RelV x u:=by
 cases r with
 |cons r1 r2=>cases r2;exact⟨_,rfl,r1⟩
theorem vals2{x y:V}{us:List Value}(r:Vals [x,y] us):∃u w',us=[u,w']∧RelV x u∧RelV y w':=by
 cases r with
 |cons r1 r2=>
  cases r2 with
  |cons r3 r4=>cases r4;exact⟨_,_,rfl,r1,r3⟩
theorem Gg(hc:X.calm=true):CallR X (.builtin "max") (fun xs H Q=>∃i j,xs=[.int i,.int j]∧Q (.int (if j > i then j else i)) H):=by
 intro pins s σ H xs us Q I r h
 refine byc fun zG_=>?_
 obtain⟨i,j,rfl,q⟩:=h
 obtain⟨u,w',rfl,⟨t,rfl⟩,⟨t',rfl⟩⟩:=vals2 r
 refine zG_ ?_
 refine max_two_ints (I.ok.hd hc) fun h' tk k=>⟨_,H,I.kept k,?_,q⟩
 by_cases hj:j > i
 ·rw[if_pos hj,if_pos hj];exact⟨_,rfl⟩
 ·rw[if_neg hj,if_neg hj];exact⟨_,rfl⟩
theorem Gf(hc:X.calm=true):CallR X (.builtin "min") (fun xs H Q=>∃i j,xs=[.int i,.int j]∧Q (.int (if j<i then j else i)) H):=by
 intro pins s σ H xs us Q I r h
 refine byc fun zG_=>?_
 obtain⟨i,j,rfl,q⟩:=h
 obtain⟨u,w',rfl,⟨t,rfl⟩,⟨t',rfl⟩⟩:=vals2 r
 refine zG_ ?_
 refine min_two_ints (I.ok.hd hc) fun h' tk k=>⟨_,H,I.kept k,?_,q⟩
 by_cases hj:j<i
 ·rw[if_pos hj,if_pos hj];exact⟨_,rfl⟩
 ·rw[if_neg hj,if_neg hj];exact⟨_,rfl⟩
end
structure ObjM(h:Heap)(x dx C:Addr)(mA:Str→Option Value):Prop where
 obj:h.get? x=some (instObj C dx)
 ns:h.Ns1 dx mA
 ne:dx≠x
theorem QW{h:Heap}{dx:Addr}{mA:Str→Option Value}(n:h.Ns1 dx mA):∃od,h.get? dx=some od∧∀name,lookIn name od=some (mA name):=by
 refine byc fun zG_=>?_
 obtain⟨o,es,ep,ho,hd,hk,_,hm⟩:=n
 refine zG_ ?_
 refine⟨o,ho,fun name=>?_⟩
 have e:=hm name
 unfold nsFind findBy at e
 rw[← Array.find?_toList] at e
 unfold lookIn
 rw[hd]
 dsimp only
 split
 ·rename_i y q
  rw[q] at e
  exact congrArg some e
 ·rename_i q
  rw[q] at e
  have a:es.toList.any (·.refKey)=false:=by
   rw[List.any_eq_false]
   intro y hy
   obtain⟨z,t,hkey⟩:=hk y (Array.mem_toList_iff.mp hy)
   simp[DictEntry.refKey,hkey]
  have a':¬ es.toList.any (·.refKey)=true:=by rw[a];exact Bool.false_ne_true
  rw[if_neg a']
  exact congrArg some e
theorem ObjM.look{h:Heap}{x dx C:Addr}{mA:Str→Option Value}(I:ObjM h x dx C mA):∃od,PySem.W.InstAt h x (instObj C dx) C (some od)∧∀name,lookIn name od=some (mA name):=
 let ⟨od,ho,hl⟩:=QW I.ns
 ⟨od,⟨I.obj,rfl,rfl,ho⟩,hl⟩
section
variable{prog:Program}{w:World}{A:Around}{E:Value→Shared→Prop}{s:Shared}{K:Frag}{x dx C f:Addr}{mA:Str→Option Value}{name:Str}{v:Value}
theorem LI{expr:Bool}{Q:Value→Shared→Prop}(X:K.In s.heap)(I:ObjM s.heap x dx C mA)(hg:plainGet K C name=true)(hh:hasDictIn K C=true)
  (ha:findIn K (.ref C) name=some none) (hv:mA name=some v) (hv':PySem.W.handedIn v=true) (h:Q v { s with toks:=s.toks+1 }) :
  wpAny (model prog w) A (getAttr (.ref x) name expr) Q E s:=by
 obtain⟨od,J,hl⟩:=I.look
 exact PySem.W.get_value X J (plainGet_of hg).1 (PySem.W.findObj_own hh ha rfl (by rw[hl,hv])) hv' h
theorem MT{pl:Sem Bool}{Q:Value×List Value→Shared→Prop}(X:K.In s.heap)(I:ObjM s.heap x dx C mA)(hg:plainGet K C name=true)
  (hf:findIn K (.ref C) name=some (some (.ref f))) (ht:isFn K (.ref f)=true) (hv:mA name=none) (h:Q (.ref f,[.ref x]) s) :
  wpAny (model prog w) A (getMethod (.ref x) name pl) Q E s:=by
 obtain⟨od,J,hl⟩:=I.look
 exact PySem.W.method_fn X J (plainGet_of hg).1 (plainGet_of hg).2 hf (beq_iff_eq.mp ht) (by show(lookIn name od).map (·.isSome)=some false;rw[hl,hv];rfl) h
theorem Tw{ns:List Str}{Q:Unit→Shared→Prop}(X:K.In s.heap)(I:ObjM s.heap x dx C mA)
  (hs:findIn K (.ref C) "__setattr__" = some (some (.builtin "object.__setattr__"))) (hp:plainOver K C=true) (ht:takerIn K C name=some none) (hh:hasDictIn K C=true)
  (hw:PySem.Within mA ns) (hsz:ns.length≤sizeLine)
  (h:∀h',ObjM h' x dx C (fun y=>if y=name then some v else mA y)→Heap.SameBut dx s.heap h'→Q () { s with heap:=h',toks:=s.toks+2 }) :
  wpAny (model prog w) A (setAttr (.ref x) name v) Q E s:=by
 obtain⟨od,J,hl⟩:=I.look
 refine PySem.W.set_plain X J hs (PySem.W.osa_open (s:={ s with toks:=s.toks+1 }) (r:=none) X J hp ht fun b=>?_)
 obtain⟨cd,hc,hd'⟩:=PySem.W.any_some hh
 have hx:s.heap.get? x=some ⟨.ref C,some dx,.plain,#[]⟩:=I.obj
 refine wpAny_bind (wpAny_pure (wpAny_bind (wpAny_bind (wpAny_loadPart hx (wpAny_bind (PySem.W.Looks.here (s:={ s with toks:=s.toks+1 }) (PySem.W.looks_clsIn X hc) ?_))))))
 rw[hd']
 refine wpAny_pure (a:=some dx) (wpAny_bind (wpAny_pure (wpAny_bind ?_)))
 refine wpAny_nsSet1 (s:={ s with toks:=s.toks+1 }) I.ns fun h' hn2 hs2=>?_
 refine byc fun zG_=>?_
 obtain⟨oD,esD,epD,hoD,hdD,hcD⟩:=hn2.count (PySem.Within.cons name v hw)
 refine zG_ ?_
 refine wpAny_bind (wpAny_lookBehind hoD (by rw[hdD];exact pastItsLine_dict (le_trans hcD (by rw[length_cons];lia))) ?_)
 exact wpAny_pure (h _ ⟨(hs2.2 _ (Ne.symm I.ne)).trans I.obj,hn2,I.ne⟩ hs2)
theorem Mt{R:Result→Shared→Prop}{vs:List Value}{kw:List (Str×Value)}(X:K.In s.heap)(hm:makesIn K C=true)
  (hi:findIn K (.ref C) "__init__" = some (some (.ref f))) (hf:PySem.W.typeIn K (.ref f)=some (.type "function"))
  (h:codeAny (model prog w) (A.under (.builtin "type.__call__" ⟨.ref C::vs,kw⟩)) (.call (.ref f) ⟨.ref (s.heap.objs.size+1)::vs,kw⟩) (PySem.W.InitBack (s.heap.objs.size+1) R)
   { s with heap:=(s.heap.push emptyDict).push (instObj C s.heap.objs.size) }) :
  codeAny (model prog w) A (.call (.ref C) ⟨vs,kw⟩) R s:=by
 refine byc fun zG_=>?_
 obtain⟨hh,g,d,t,os⟩:=s
 refine zG_ ?_
 exact PySem.W.make_core (PySem.W.makes_of X hm) (PySem.W.looks_findIn X hi) (fun self=>PySem.W.bind_fn X self hf) (.inl rfl) h
end
noncomputable def yK(f:Str)(v:V):List (Str×V)→List (Str×V)
 |[]=>[(f,v)]
 | (g,x)::r=>if g=f then (g,v)::r else (g,x)::yK f v r
theorem uX(f g:Str)(v:V):∀fs:List (Str×V),(yK f v fs).lookup g=if g=f then some v else fs.lookup g:=by
 intro l_
 induction l_ with
 |nil=>
  show List.lookup g [(f,v)]=_
  by_cases h:g=f
  ·have hb:(g==f)=true:=beq_iff_eq.mpr h
   simp only[List.lookup,hb,if_pos h]
  ·have hb:(g==f)=false:=beq_eq_false_iff_ne.mpr h
   simp only[List.lookup,hb,if_neg h]
 |cons p_ r ih_=>
  obtain⟨k,x⟩:=p_
  have ih:=ih_
  rw[show yK f v ((k,x)::r)=(if k=f then (k,v)::r else (k,x)::yK f v r) from rfl]
  by_cases hk:k=f
  ·rw[if_pos hk]
   by_cases h:g=k
   ·have hb:(g==k)=true:=beq_iff_eq.mpr h
    simp only[List.lookup,hb,if_pos (h.trans hk)]
   ·have hb:(g==k)=false:=beq_eq_false_iff_ne.mpr h
    simp only[List.lookup,hb,if_neg (fun e:g=f=>h (e.trans hk.symm))]
  ·rw[if_neg hk]
   by_cases h:g=k
   ·have hb:(g==k)=true:=beq_iff_eq.mpr h
    simp only[List.lookup,hb,if_neg (fun e:g=f=>hk (h.symm.trans e))]
   ·have hb:(g==k)=false:=beq_eq_false_iff_ne.mpr h
    simp only[List.lookup,hb]
    exact ih
theorem ZK(f:Str)(v:V):∀fs:List (Str×V),f∈(yK f v fs).map (·.1)∧∀g,g∈fs.map (·.1)→g∈(yK f v fs).map (·.1):=by
 intro l_
 induction l_ with
 |nil=>
  exact⟨by simp[yK],fun g h=>by simp at h⟩
 |cons p_ r ih_=>
  obtain⟨k,x⟩:=p_
  obtain⟨i1,i2⟩:=ih_
  rw[show yK f v ((k,x)::r)=(if k=f then (k,v)::r else (k,x)::yK f v r) from rfl]
  by_cases hk:k=f
  ·rw[if_pos hk]
   subst hk
   exact⟨by simp,fun g h=>by simpa using h⟩
  ·rw[if_neg hk]
   refine⟨?_,fun g h=>?_⟩
   ·rw[map_cons]
    exact mem_cons_of_mem _ i1
   ·rw[map_cons] at h ⊢
    rcases mem_cons.mp h with e|e
    ·exact mem_cons.mpr (.inl e)
    ·exact mem_cons_of_mem _ (i2 g e)
theorem ZX(f:Str)(v:V):∀fs:List (Str×V),(yK f v fs).length≤fs.length+1:=by
 intro l_
 induction l_ with
 |nil=>
  simp[yK]
 |cons p_ r ih_=>
  obtain⟨k,x⟩:=p_
  have ih:=ih_
  rw[show yK f v ((k,x)::r)=(if k=f then (k,v)::r else (k,x)::yK f v r) from rfl]
  by_cases hk:k=f
  ·rw[if_pos hk,length_cons,length_cons];lia
  ·rw[if_neg hk,length_cons,length_cons];lia
theorem RelO.some_of{v:V}{o:Option Value}(r:RelO (some v) o):∃u,o=some u∧RelV v u:=by
 cases o with
 |none=>exact(show False from r).elim
 |some u=>exact⟨u,rfl,r⟩
theorem RelO.none_of{o:Option Value}(r:RelO none o):o=none:=by
 cases o with
 |none=>rfl
 |some u=>exact(show False from r).elim
theorem Q7{v:V}{u:Value}(r:RelV v u):PySem.W.handedIn u=true:=by
 cases v with
 |non=>cases (show u=Value.none from r);rfl
 |bl b=>cases (show u=Value.bool b from r);rfl
 |int i=>obtain⟨t,e⟩:=(show ∃t,u=Value.int i t from r);cases e;rfl
 |str x=>obtain⟨t,e⟩:=(show ∃t,u=Value.str x t from r);cases e;rfl
 |byt b=>obtain⟨t,e⟩:=(show ∃t,u=Value.bytes b t from r);cases e;rfl
 |flt b=>obtain⟨t,e⟩:=(show ∃t,u=Value.float b t from r);cases e;rfl
 |ref a=>cases (show u=Value.ref a from r);rfl
 |ty n=>cases (show u=Value.type n from r);rfl
section
variable{P:Program}{w:World}{H H':Hp}{h h':Heap}{a C dx:Addr}{fs fs':List (Str×V)}
theorem W1(hok:HOk P w H h)(e:H a=some (.ins C dx fs)):∃mA,ObjM h a dx C mA∧(∀f,RelO (fs.lookup f) (mA f))∧PySem.Within mA (fs.map (·.1))∧fs.length≤1000∧H dx=some (.own a):=by
 refine byc fun zG_=>?_
 obtain⟨d,z,ne,ob,mA,n,r,q⟩:=(show ObjOk P w H h a (.ins C dx fs) from hok a _ e)
 refine zG_ ?_
 exact⟨mA,⟨ob,n,ne⟩,r,q,z,d⟩
end
structure Cls(K:Frag)(C:Addr):Prop where
 pg:plainGet K C Str.empty=true
 hd:hasDictIn K C=true
 po:plainOver K C=true
 sa:findIn K (.ref C) "__setattr__" = some (some (.builtin "object.__setattr__"))
theorem Cls.get{K:Frag}{C:Addr}(c:Cls K C)(f:Str):plainGet K C f=true:=c.pg
noncomputable def NoAttr(K:Frag)(C:Addr)(f:Str):Prop:=findIn K (.ref C) f=some none
theorem NoAttr.taker{K:Frag}{C:Addr}{f:Str}(n:NoAttr K C f):takerIn K C f=some none:=by
 unfold takerIn
 rw[show findIn K (.ref C) f=some none from n]
 rfl
structure jN(K:Frag)(C:Addr)(m:Str)(f:Addr):Prop where
 at_:findIn K (.ref C) m=some (some (.ref f))
 fn:isFn K (.ref f)=true
 kp:keepIn K (.ref f)=true
section
variable{X:Cx}{pins:List (Addr×Obj)}{σ:St}{H:Hp}{s:Shared}{a C dx:Addr}{fs:List (Str×V)}{f:Str}{v:V}{A:Around}{E:Value→Shared→Prop}
theorem Xf{b:Bool}{Q:Value→Shared→Prop}(I:Inv X pins σ H s)(e:H a=some (.ins C dx fs))(c:Cls X.K C)(n:NoAttr X.K C f)(l:fs.lookup f=some v)
  (h:∀u s',Inv X pins σ H s'→RelV v u→Q u s'):wpAny (model X.prog X.w) A (getAttr (.ref a) f b) Q E s:=by
 refine byc fun zG_=>?_
 obtain⟨mA,O,r,_,_,_⟩:=W1 I.hok e
 obtain⟨u,hu,ru⟩:=RelO.some_of (v:=v) (o:=mA f) (by rw[← l];exact r f)
 refine zG_ ?_
 exact LI I.kIn O (c.get f) c.hd n hu (Q7 ru) (h u _ (I.tok _) ru)
theorem Xe{m:Str}{g:Addr}{pl:Sem Bool}{Q:Value×List Value→Shared→Prop}(I:Inv X pins σ H s)(e:H a=some (.ins C dx fs))(c:Cls X.K C)(k:jN X.K C m g)(l:fs.lookup m=none)
  (h:Q (.ref g,[.ref a]) s):wpAny (model X.prog X.w) A (getMethod (.ref a) m pl) Q E s:=by
 refine byc fun zG_=>?_
 obtain⟨mA,O,r,_,_,_⟩:=W1 I.hok e
 refine zG_ ?_
 have hn:mA m=none:=RelO.none_of (by rw[← l];exact r m)
 exact MT I.kIn O (c.get m) k.at_ k.fn hn h
theorem Yz{y:V}{u:Value}{Q:Unit→Shared→Prop}(I:Inv X pins σ H s)(e:H a=some (.ins C dx fs))(c:Cls X.K C)(n:NoAttr X.K C f)(hl:fs.length<1000)(ry:RelV y u)
  (h:∀s',Inv X pins σ (upd H a (.ins C dx (yK f y fs))) s'→Q () s'):wpAny (model X.prog X.w) A (setAttr (.ref a) f u) Q E s:=by
 refine byc fun zG_=>?_
 obtain⟨mA,O,r,wi,_,ho⟩:=W1 I.hok e
 refine zG_ ?_
 have hz:(fs.map (·.1)).length≤sizeLine:=by rw[length_map,sizeLine_eq];lia
 refine Tw I.kIn O c.sa c.po n.taker c.hd wi hz fun h' O' sb=>h _ ?_
 have hd:∃o,h'.get? dx=some o:=let ⟨o,_,_,e',_⟩:=O'.ns;⟨o,e'⟩
 refine I.write (x:=a) (e:=dx) (by rw[e];exact True.intro) (.inr ho) (fun b q hb z=>(sb.2 b hb).trans z) hd ?_
 refine⟨by rw[zm O.ne];exact ho,?_,O.ne,O'.obj,_,O'.ns,fun g=>?_,fun g hg=>?_⟩
 ·have:=ZX f y fs;lia
 ·show RelO ((yK f y fs).lookup g) (if g=f then some u else mA g)
  rw[uX]
  by_cases q:g=f
  ·rw[if_pos q,if_pos q];exact ry
  ·rw[if_neg q,if_neg q];exact r g
 ·by_cases q:g=f
  ·rw[q];exact(ZK f y fs).1
  ·refine(ZK f y fs).2 g (wi g fun z=>hg ?_)
   show(if g=f then some u else mA g)=none
   rw[if_neg q];exact z
theorem Inv.made(I:Inv X pins σ H s):Inv X pins σ (upd (upd H s.heap.objs.size (.own (s.heap.objs.size+1))) (s.heap.objs.size+1) (.ins C s.heap.objs.size []))
  { s with heap:=(s.heap.push emptyDict).push (instObj C s.heap.objs.size) }:=by
 have e1:(s.heap.push emptyDict).get? s.heap.objs.size=some emptyDict:=Heap.get?_push_size s.heap rfl
 have e2:((s.heap.push emptyDict).push (instObj C s.heap.objs.size)).get? (s.heap.objs.size+1)=some (instObj C s.heap.objs.size):=by
  have:=Heap.get?_push_size (s.heap.push emptyDict) (o:=instObj C s.heap.objs.size) rfl
  rwa [Heap.size_push] at this
 have e3:(s.heap.push emptyDict).Ns s.heap.objs.size (fun _=>none):=⟨emptyDict,#[],_,e1,rfl,(fun e he=>absurd he (by simp)),fun _=>rfl⟩
 have I1:=I.laid (a:=s.heap.objs.size) (o:=.own (s.heap.objs.size+1)) (h':=s.heap.push emptyDict) (t':=s.toks) (fun b u q=>get?_push_of_some _ q) (le_refl _) ⟨_,e1⟩
 refine I1.laid (a:=s.heap.objs.size+1) (o:=.ins C s.heap.objs.size []) (t':=s.toks) (fun b u q=>get?_push_of_some _ q) (Nat.le_of_eq (Heap.size_push _ _)) ?_
 have ne:s.heap.objs.size≠s.heap.objs.size+1:=ne_of_lt (Nat.lt_succ_self _)
 refine⟨by rw[zm ne,zo],zero_le _,ne,e2,fun _=>none,(Heap.Ns1.of_empty e3).at fun o q=>get?_push_of_some _ q,fun _=>True.intro,fun y hy=>absurd rfl hy⟩
theorem LW{prog:Program}{w:World}{env:Env}{e:Expr}{f:Str}{pos:Pos}{s:Shared}{Q:Value→Shared→Prop}(hb:attributeBase e f env (eval e env)=eval e env)
  (h:wpAny (model prog w) A (eval e env) (fun o s₁=>wpAny (model prog w) A (getAttr o f true) Q E s₁) E s):wpAny (model prog w) A (eval (.Attribute e f pos) env) Q E s:=
 Attribute_any_ h (by rw[arm_eval_Attribute,hb])
end
noncomputable def tFld(K:Frag)(ta:TE)(f:Str):TE:=fun σ H Q=>ta σ H fun x H1=>∃a C dx fs v,x=.ref a∧H1 a=some (.ins C dx fs)∧Cls K C∧NoAttr K C f∧fs.lookup f=some v∧Q v H1
noncomputable def sFld(K:Frag)(ta tv:TE)(f:Str):TS:=fun D σ H=>tv σ H fun y H1=>ta σ H1 fun x H2=>∃a C dx fs,x=.ref a∧H2 a=some (.ins C dx fs)∧Cls K C∧NoAttr K C f∧fs.length<1000 ∧
 D.nx σ (upd H2 a (.ins C dx (yK f y fs)))
noncomputable def InOp(X:Cx)(op:Operator)(rd:V→V→Hp→VK→Prop):Prop:=
 ∀(pins:List (Addr×Obj)) (s:Shared) (σ:St) (H:Hp) (x y:V) (u v:Value) (Q:VK),Inv X pins σ H s→RelV x u→RelV y v→rd x y H Q→wpAny (model X.prog X.w) X.A (inplaceOp op u v) (EP X pins σ Q) X.xe s
noncomputable def TB(K:Frag)(ta tv:TE)(rd:V→V→Hp→VK→Prop)(f:Str):TS:=fun D σ H=>ta σ H fun x H1=>∃a C dx fs v,x=.ref a∧H1 a=some (.ins C dx fs)∧Cls K C∧NoAttr K C f∧fs.lookup f=some v ∧
 tv σ H1 fun y H2=>rd v y H2 fun z H3=>∃dx' fs',H3 a=some (.ins C dx' fs')∧fs'.length<1000∧D.nx σ (upd H3 a (.ins C dx' (yK f z fs')))
section
variable{X:Cx}{o e value:Expr}{f:Str}{pos pos' tpos:Pos}{ta tv:TE}
theorem GR(he:PE X e ta)(hb:attributeBase e f X.env (eval e X.env)=eval e X.env):PE X (.Attribute e f pos) (tFld X.K ta f):=by
 intro pins s σ H Q I h
 refine LW hb (thn (he pins s σ H _ I h) fun u s1 z_=>?_)
 refine byc fun zG_=>?_
 obtain⟨x,H1,I1,rx,a,C,dx,fs,v,ex,ea,c,n,l,q⟩:=z_
 refine zG_ ?_
 subst ex
 obtain rfl:u=Value.ref a:=rx
 exact Xf I1 ea c n l fun u' s2 I2 ru=>⟨v,H1,I2,ru,q⟩
theorem WH(ha:PE X o ta)(hv:PE X value tv)(hs:swapsWith value (some (.Attribute o f pos')) pos.line X.env=pure false):PS X (.Assign [.Attribute o f pos'] value pos) (sFld X.K ta tv f):=by
 intro pins s σ H D I h
 refine plainObj_wpAny_Assign_Attribute (thn (hv pins s σ H _ I h) fun u s1 ⟨y,H1,I1,ry,q⟩=>thn (ha pins s1 σ H1 _ I1 q) fun ov s2 z_=>?_) hs
 refine byc fun zG_=>?_
 obtain⟨x,H2,I2,rx,a,C,dx,fs,ex,ea,c,n,l,q2⟩:=z_
 refine zG_ ?_
 subst ex
 obtain rfl:ov=Value.ref a:=rx
 exact Yz I2 ea c n l ry fun s3 I3=>⟨σ,_,I3,q2⟩
theorem X4{op:Operator}{rd:V→V→Hp→VK→Prop}(ha:PE X o ta)(hv:PE X value tv)(hop:InOp X op rd):PS X (.AugAssign (.Attribute o f tpos) op value pos) (TB X.K ta tv rd f):=by
 intro pins s σ H D I h
 refine wpAny_AugAssign_AttributeAny (thn (ha pins s σ H _ I h) fun ov s1 z_=>?_)
 refine byc fun zG_=>?_
 obtain⟨x,H1,I1,rx,a,C,dx,fs,v,ex,ea,c,n,l,q⟩:=z_
 refine zG_ ?_
 subst ex
 obtain rfl:ov=Value.ref a:=rx
 refine Xf I1 ea c n l fun u s2 I2 ru=>thn (hv pins s2 σ H1 _ I2 q) fun w3 s3 ⟨y,H2,I3,ry,q3⟩=>thn (hop pins s3 σ H2 v y u w3 _ I3 ru ry q3) fun w4 s4 z_=>?_
 refine byc fun zG_=>?_
 obtain⟨z,H3,I4,rz,dx',fs',ea',l',q4⟩:=z_
 refine zG_ ?_
 exact Yz I4 ea' c n l' rz fun s5 I5=>⟨σ,_,I5,q4⟩
noncomputable def rAdd:V→V→Hp→VK→Prop:=fun x y H Q=>∃i j,x=.int i∧y=.int j∧Q (.int (i+j)) H
theorem MP:InOp X .Add rAdd:=by
 rintro pins s σ H x y u v Q I rx ry ⟨i,j,rfl,rfl,q⟩
 obtain⟨t,rfl⟩:=(show ∃t,u=Value.int i t from rx)
 obtain⟨t',rfl⟩:=(show ∃t',v=Value.int j t' from ry)
 exact PyProof.Rows.iadd_int ⟨.int (i+j),H,I.tok _,⟨_,rfl⟩,q⟩
end
section
variable{X:Cx}{pins:List (Addr×Obj)}{σ:St}{H:Hp}{s:Shared}{A:Around}{E:Value→Shared→Prop}{Q:Value→Shared→Prop}{c:Value}{b:Bool}
end
structure Room(k:Nat)(A:Around):Prop where
 hd:A.handled=none
 dp:A.depth+3*k+5<recursionLimit
 un:A.units+16*k+200<cLine
theorem Room.mono{j k:Nat}{A:Around}(r:Room k A)(h:j≤k):Room j A:=⟨r.hd,by have:=r.dp;lia,by have:=r.un;lia⟩
theorem Room.deeper{k:Nat}{A:Around}(r:Room (k+1) A)(env:Env):Room k (A.deeper env):=
 ⟨r.hd,by have:=r.dp;show A.depth+1+3*k+5<_;lia,by have:=r.un;show A.units+3+16*k+200<_;lia⟩
theorem Room.in1{k:Nat}{A:Around}(r:Room (k+1) A):Room k A.in1:=
 ⟨r.hd,by have:=r.dp;show A.depth+3*k+5<_;lia,by have:=r.un;show A.units+1+16*k+200<_;lia⟩
theorem UQ{A:Around}{C:Addr}{us:List Value}{kw:List (Str×Value)}:(A.under (.builtin "type.__call__" ⟨.ref C::us,kw⟩)).depth=A.depth+1:=by
 first|rfl|simp[Around.under,Code.weight,Code.isCreation,Code.isGuard,Code.isCaller,Code.frames,Code.isFrame,guardIds]
theorem UP{A:Around}{C:Addr}{us:List Value}{kw:List (Str×Value)}:(A.under (.builtin "type.__call__" ⟨.ref C::us,kw⟩)).units=A.units+1:=by
 first|rfl|simp[Around.under,Code.cUnits,Code.frames,Code.isFrame]
theorem Room.make{k:Nat}{A:Around}(r:Room (k+1) A)(C:Addr)(us:List Value)(kw:List (Str×Value)):Room k (A.under (.builtin "type.__call__" ⟨.ref C::us,kw⟩)):=
 ⟨r.hd,by have:=r.dp;rw[UQ];lia,by have:=r.un;rw[UP];lia⟩
theorem Room.depth{k:Nat}{A:Around}(r:Room k A):A.depth<recursionLimit:=by have:=r.dp;lia
theorem Room.units{k:Nat}{A:Around}(r:Room k A):A.units+64<cLine:=by have:=r.un;lia
noncomputable def Um:TA:=fun _ H Q=>Q [] H
noncomputable def jQ(ta:TE)(tr:TA):TA:=fun σ H Q=>ta σ H fun x H1=>tr σ H1 fun xs H2=>Q (x::xs) H2
section
variable{X:Cx}{e:Expr}{es:List Expr}{te:TE}{t:TA}{pos:Pos}
theorem wK:PA X [] Um:=fun _ _ _ _ H Q I h=>Calls.spliced_nil ⟨[],H,I,.nil,h⟩
theorem xI(ha:PE X e te)(hr:PA X es t)(hs:starEach (e::es) X.env=(false,eval e X.env)::starEach es X.env:=by rfl):PA X (e::es) (jQ te t):=by
 intro pos pins s σ H Q I h
 rw[hs]
 show wpAny _ _ (spliced ((false,eval e X.env)::backTo pos (starEach es X.env))) _ _ s
 refine Calls.spliced_cons (thn (ha pins s σ H _ I h) fun u s1 z_=>?_)
 refine byc fun zG_=>?_
 obtain⟨x,H1,I1,r1,q1⟩:=z_
 refine zG_ ?_
 exact thn (hr pos pins s1 σ H1 _ I1 q1) fun us s2 z_=>by obtain⟨xs,H2,I2,r2,q2⟩:=z_;exact⟨x::xs,H2,I2,.cons r1 r2,q2⟩
noncomputable def tTup(t:TA):TE:=fun σ H Q=>t σ H fun xs H1=>xs.length≤sizeLine∧∀p,H1 p=none→Q (.ref p) (upd H1 p (.tup xs))
noncomputable def tLst(t:TA):TE:=fun σ H Q=>t σ H fun xs H1=>xs.length≤sizeLine∧∀p,H1 p=none→Q (.ref p) (upd H1 p (.lst xs))
theorem zd7{x1}(h:PA X es t):PE X (.Tuple es x1 pos) (tTup t):=by
 intro pins s σ H Q I hq
 refine wpAny_Tuple_spliced (thn (h pos pins s σ H _ I hq) fun us s1 ⟨xs,H1,I1,r,z,q⟩=>⟨by rw[← r.length];exact z,?_⟩)
 have hf:H1 s1.heap.objs.size=none:=I1.hok.fresh (le_refl _)
 refine⟨.ref s1.heap.objs.size,upd H1 s1.heap.objs.size (.tup xs),I1.laid (t':=s1.toks) (fun b u e=>get?_push_of_some _ e) (le_refl _) ?_,rfl,q _ hf⟩
 exact⟨z,us,r,⟨_,Heap.get?_push_size _ rfl,rfl,_,rfl⟩⟩
theorem Uy(h:PA X es t):PE X (.List es pos) (tLst t):=by
 intro pins s σ H Q I hq
 refine wpAny_List_spliced (thn (h pos pins s σ H _ I hq) fun us s1 ⟨xs,H1,I1,r,z,q⟩=>⟨by rw[← r.length];exact z,?_⟩)
 have hf:H1 s1.heap.objs.size=none:=I1.hok.fresh (le_refl _)
 refine⟨.ref s1.heap.objs.size,upd H1 s1.heap.objs.size (.lst xs),I1.laid (t':=s1.toks) (fun b u e=>get?_push_of_some _ e) (le_refl _) ?_,rfl,q _ hf⟩
 exact⟨z,us,0,r,Heap.get?_push_size _ rfl⟩
end
noncomputable abbrev Sp:=List V→Hp→VK→XK→Prop
noncomputable abbrev CXT:=List Env→Hp→Shared→XK→Value→Shared→Prop
structure Env0(P:Program)(w:World)(K:Frag)(mg:Str→Option Value)(base:Heap)(A:Around)(outer:List Env)(s:Shared)(H:Hp):Prop where
 frames:A.frames=some outer
 mod:Mod K mg base
 bs:∀b o,base.get? b=some o→s.heap.get? b=some o∧H b=none
 bsz:base.objs.size≤s.heap.objs.size
 funs:s.heap.FunFrames base outer
 frf:∀b∈frs outer,H b=none
 hok:HOk P w H s.heap
 bare:AllBare s.gens
noncomputable def CE(outer:List Env)(P:Program)(w:World)(H:Hp)(s:Shared)(Q:VK)(u:Value)(s':Shared):Prop:=
 ∃v H',s'.os=s.os∧AllBare s'.gens∧Un (frs outer) [] H H' s.heap s'.heap∧HOk P w H' s'.heap∧RelV v u∧Q v H'
noncomputable def CR(CX:CXT)(outer:List Env)(P:Program)(w:World)(H:Hp)(s:Shared)(Q:VK)(E:XK)(r:Result)(s':Shared):Prop:=
 match r with
 | .ok (.ret u)=>CE outer P w H s Q u s'
 |.ok _=>False
 |.error e=>CX outer H s E e s'
structure FnOk(P:Program)(w:World)(K:Frag)(mg:Str→Option Value)(base:Heap)(CX:CXT)(k:Nat)(f:Addr)(fd:FuncData)(ps:List Str)(sp:Sp):Prop where
 len:∀vs H Q E,sp vs H Q E→vs.length=ps.length
 run:∀(A:Around) (outer:List Env) (s:Shared) (H:Hp) (args:Args) (us:List Value) (vs:List V) (Q:VK) (E:XK),Room k A→Env0 P w K mg base A outer s H→BindsTo s fd args (ps.zip us)→Vals vs us→sp vs H Q E →
  codeAny (model P w) A (.call (.ref f) args) (CR CX outer P w H s Q E) s
theorem FnOk.imp{P:Program}{w:World}{K:Frag}{mg:Str→Option Value}{base:Heap}{CX:CXT}{k:Nat}{f:Addr}{fd:FuncData}{ps:List Str}{sp sp':Sp}(F:FnOk P w K mg base CX k f fd ps sp)
  (h:∀vs H Q E,sp' vs H Q E→sp vs H Q E):FnOk P w K mg base CX k f fd ps sp':=
 ⟨fun vs H Q E q=>F.len vs H Q E (h _ _ _ _ q),fun A outer s H args us vs Q E hr he hb hv hs=>F.run A outer s H args us vs Q E hr he hb hv (h _ _ _ _ hs)⟩
theorem Env0.make{P:Program}{w:World}{K:Frag}{mg:Str→Option Value}{base:Heap}{A:Around}{outer:List Env}{s:Shared}{H:Hp}(e:Env0 P w K mg base A outer s H)(C:Addr)(us:List Value)(kw:List (Str×Value)) :
  Env0 P w K mg base (A.under (.builtin "type.__call__" ⟨.ref C::us,kw⟩)) outer s H:=⟨by first|exact e.frames | (simpa[Around.under,Code.envs,Code.isFrame,pushEnvs] using e.frames),e.mod,e.bs,e.bsz,e.funs,e.frf,e.hok,e.bare⟩
section
variable{X:Cx}{pins:List (Addr×Obj)}{σ:St}{H:Hp}{s s':Shared}
theorem Inv.env0(I:Inv X pins σ H s):Env0 X.prog X.w X.K X.mg X.base X.A X.stack s H:=
 ⟨I.ok.frames,I.ok.mod,I.bs,le_trans I.ok.bsz I.sz,I.stack,I.stkFree,I.hok,I.bare⟩
theorem Inv.after{Q:VK}{u:Value}(I:Inv X pins σ H s)(h:CE X.stack X.prog X.w H s Q u s'):EP X pins σ Q u s':=by
 refine byc fun zG_=>?_
 obtain⟨v,H',os,bare,un,hok,r,q⟩:=h
 obtain⟨hh,g,d,t,os'⟩:=s'
 refine zG_ ?_
 obtain rfl:os'=s.os:=os
 exact⟨v,H',I.call (h':=hh) (g':=g) (d':=d) (t':=t) (ch:=[]) un hok bare (fun b z=>absurd z (by simp)),r,q⟩
end
noncomputable def Vm(sp:Sp)(dvs:List V)(E:XK)(t:TA):TE:=fun σ H Q=>t σ H fun vs H1=>sp (vs++dvs) H1 Q E
noncomputable def Jf(C:Addr)(m:Str)(sp:Sp)(dvs:List V)(E:XK)(ta:TE)(t:TA):TE:=fun σ H Q=>ta σ H fun x H1=>∃a dx fs,x=.ref a∧H1 a=some (.ins C dx fs)∧fs.lookup m=none ∧
 t σ H1 fun vs H2=>sp (x::(vs++dvs)) H2 Q E
noncomputable def L8(C:Addr)(sp:Sp)(dvs:List V)(E:XK)(t:TA):TE:=fun σ H Q=>t σ H fun vs H1=>∀x dx,H1 x=none→H1 dx=none→dx≠x →
 sp (.ref x::(vs++dvs)) (upd (upd H1 dx (.own x)) x (.ins C dx [])) (fun v H2=>v=.non∧Q (.ref x) H2) E
noncomputable def Binds(K:Frag)(fd:FuncData)(ps:List Str)(ds:List Value):Prop:=
 ∀(s:Shared) (us:List Value),K.In s.heap→(us++ds).length=ps.length→BindsTo s fd ⟨us,[]⟩ (ps.zip (us++ds))
theorem Binds.all{K:Frag}{fd:FuncData}{ps:List Str}(h:∀us:List Value,us.length=ps.length→bindArgs fd ⟨us,[]⟩=pure (ps.zip us)):Binds K fd ps []:=fun s us _ hl=>by
 rw[append_nil] at hl ⊢
 exact .of_eq (h us hl)
noncomputable def jM(CX:CXT)(X:Cx)(E:XK):Prop:=∀(pins:List (Addr×Obj)) (σ:St) (H:Hp) (s:Shared) (e:Value) (s':Shared),Inv X pins σ H s→CX X.stack H s E e s'→X.xe e s'
section
variable{X:Cx}{CX:CXT}{k:Nat}{f C:Addr}{fd:FuncData}{ps:List Str}{sp:Sp}{dvs:List V}{ds:List Value}{E:XK}{x m:Str}{p pos apos:Pos}{e o:Expr}{es:List Expr}{ta:TE}{t:TA}
theorem Uw{pins:List (Addr×Obj)}{σ:St}{H:Hp}{s:Shared}{Q:VK}{us:List Value}{vs:List V}(F:FnOk X.prog X.w X.K X.mg X.base CX k f fd ps sp)(hr:Room k X.A)(hb:Binds X.K fd ps ds)(hd:Vals dvs ds)(hx:jM CX X E)
  (I:Inv X pins σ H s) (r:Vals vs us) (h:sp (vs++dvs) H Q E):wpAny (model X.prog X.w) X.A (call (.ref f) us) (EP X pins σ Q) X.xe s:=by
 have r2:Vals (vs++dvs) (us++ds):=r.append hd
 have hl:(us++ds).length=ps.length:=by rw[← r2.length];exact F.len _ _ _ _ h
 refine wpAny_call (codeAny_mono (F.run X.A X.stack s H ⟨us,[]⟩ (us++ds) (vs++dvs) Q E hr I.env0 (hb s us I.kIn hl) r2 h) fun r s' hq=>?_)
 cases r with
 |error e=>exact hx pins σ H s e s' I hq
 |ok fl=>
  cases fl with
  |ret u=>exact I.after hq
  |next=>exact False.elim hq
  |brk=>exact False.elim hq
  |cont=>exact False.elim hq
theorem Yl(F:FnOk X.prog X.w X.K X.mg X.base CX k f fd ps sp)(hr:Room k X.A)(hg:Gl X x)(hm:X.mg x=some (.ref f))(hk:keepIn X.K (.ref f)=true)(hb:Binds X.K fd ps ds)(hd:Vals dvs ds)(hx:jM CX X E)
  (ha:PA X (e::es) t) (hdb:(x==("__debug__" : Str))=false:=by decide) (he:starEach (e::es) X.env=(false,eval e X.env)::starEach es X.env:=by rfl) (hpl:(backTo pos (starEach es X.env)).any (·.1)=false:=by rfl) :
  PE X (.Call (.Name x p) (e::es) [] pos) (Vm sp dvs E t):=by
 intro pins s σ H Q I h
 refine wpAny_Call_Name_kw (WY I hg hm ?_ hdb)
 refine callWith_K (h₀:=X.base) I.ok.mod.kin hk (thn (ha pos pins s σ H _ I h) fun us s1 ⟨vs,H1,I1,r,q⟩=>⟨I1.kIn,?_⟩) he hpl
 exact Uw F hr hb hd hx I1 r q
theorem Jw{pl:Sem Bool}(he:PE X o ta)(c:Cls X.K C)(hm:jN X.K C m f)(F:FnOk X.prog X.w X.K X.mg X.base CX k f fd ps sp)(hr:Room k X.A)(hb:Binds X.K fd ps ds)(hd:Vals dvs ds)(hx:jM CX X E)(ha:PA X (e::es) t)
  (hst:starEach (e::es) X.env=(false,eval e X.env)::starEach es X.env:=by rfl) (hpl:(backTo pos (starEach es X.env)).any (·.1)=false:=by rfl)
  (ht:eval (.Call (.Attribute o m apos) (e::es) [] pos) X.env=(do
   let ov ← eval o X.env
   standAt apos.atName
   let (f,first) ← holding [ov] (getMethod ov m pl)
   callWith pos f first (backTo pos (starEach (e::es) X.env)) (backToKw pos (keywordEach [] X.env))):=by rfl) :
  PE X (.Call (.Attribute o m apos) (e::es) [] pos) (Jf C m sp dvs E ta t):=by
 intro pins s σ H Q I h
 refine PySem.W.methodCall_KW (pl:=pl) (thn (he pins s σ H _ I h) fun u s1 z_=>?_) ht
 refine byc fun zG_=>?_
 obtain⟨x,H1,I1,rx,a,dx,fs,ex,ea,l,q⟩:=z_
 refine zG_ ?_
 subst ex
 obtain rfl:u=Value.ref a:=rx
 refine Xe I1 ea c hm l ?_
 refine callWith_K (first:=[.ref a]) (h₀:=X.base) I.ok.mod.kin hm.kp (thn (ha pos pins s1 σ H1 _ I1 q) fun us s2 ⟨vs,H2,I2,r,q2⟩=>⟨I2.kIn,?_⟩) hst hpl
 exact Uw (us:=.ref a::us) (vs:=.ref a::vs) F hr hb hd hx I2 (.cons rfl r) q2
theorem Vy{pl:Sem Bool}(he:PE X o ta)(c:Cls X.K C)(hm:jN X.K C m f)(F:FnOk X.prog X.w X.K X.mg X.base CX k f fd ps sp)(hr:Room k X.A)(hb:Binds X.K fd ps ds)(hd:Vals dvs ds)(hx:jM CX X E)
  (ht:eval (.Call (.Attribute o m apos) [] [] pos) X.env=(do
   let ov ← eval o X.env
   standAt apos.atName
   let (f,first) ← holding [ov] (getMethod ov m pl)
   callWith pos f first (backTo pos (starEach [] X.env)) (backToKw pos (keywordEach [] X.env))):=by rfl) :
  PE X (.Call (.Attribute o m apos) [] [] pos) (Jf C m sp dvs E ta Um):=by
 intro pins s σ H Q I h
 refine PySem.W.methodCall_KW (pl:=pl) (thn (he pins s σ H _ I h) fun u s1 z_=>?_) ht
 refine byc fun zG_=>?_
 obtain⟨x,H1,I1,rx,a,dx,fs,ex,ea,l,q⟩:=z_
 refine zG_ ?_
 subst ex
 obtain rfl:u=Value.ref a:=rx
 refine Xe I1 ea c hm l ?_
 exact PySem.W.callWith_K0 (first:=[.ref a]) I1.kIn hm.kp (Uw (us:=[.ref a]) (vs:=[.ref a]) F hr hb hd hx I1 (.cons rfl .nil) q)
structure Mk(K:Frag)(C f:Addr):Prop where
 makes:makesIn K C=true
 init:findIn K (.ref C) "__init__" = some (some (.ref f))
 fn:isFn K (.ref f)=true
 kp:keepIn K (.ref C)=true
theorem GD{pins:List (Addr×Obj)}{σ:St}{H:Hp}{s:Shared}{Q:VK}{us:List Value}{vs:List V}(M:Mk X.K C f)(F:FnOk X.prog X.w X.K X.mg X.base CX k f fd ps sp)(hr:Room (k+1) X.A)(hb:Binds X.K fd ps ds)(hd:Vals dvs ds)
  (hx:jM CX X E) (I:Inv X pins σ H s) (r:Vals vs us)
  (h:∀x dx,H x=none→H dx=none→dx≠x→sp (.ref x::(vs++dvs)) (upd (upd H dx (.own x)) x (.ins C dx [])) (fun v H2=>v=.non∧Q (.ref x) H2) E) :
  wpAny (model X.prog X.w) X.A (call (.ref C) us) (EP X pins σ Q) X.xe s:=by
 have hq:=h (s.heap.objs.size+1) s.heap.objs.size (I.hok.fresh (Nat.le_succ _)) (I.hok.fresh (le_refl _)) (ne_of_lt (Nat.lt_succ_self _))
 have I2:=Inv.made (C:=C) I
 have r2:Vals (V.ref (s.heap.objs.size+1)::(vs++dvs)) (Value.ref (s.heap.objs.size+1)::(us++ds)):=.cons rfl (r.append hd)
 have hl:(Value.ref (s.heap.objs.size+1)::us++ds).length=ps.length:=by
  have e:=r2.length
  rw[F.len _ _ _ _ hq] at e
  exact e.symm
 refine wpAny_call (Mt (f:=f) I.kIn M.makes M.init (beq_iff_eq.mp M.fn) (codeAny_mono (F.run _ X.stack _ _ ⟨Value.ref (s.heap.objs.size+1)::us,[]⟩ (Value.ref (s.heap.objs.size+1)::(us++ds)) _ _ E (hr.make C us [])
  (I2.env0.make C us []) (hb _ (Value.ref (s.heap.objs.size+1)::us) I2.kIn hl) r2 hq) fun r s' hq'=>?_))
 cases r with
 |error e=>exact hx pins σ _ _ e s' I2 hq'
 |ok fl=>
  cases fl with
  |ret u=>
   refine byc fun zG_=>?_
   obtain⟨v,H',I3,rv,ev,q3⟩:=I2.after hq'
   refine zG_ ?_
   subst ev
   exact⟨rv,⟨V.ref (s.heap.objs.size+1),H',I3,rfl,q3⟩⟩
  |next=>exact False.elim hq'
  |brk=>exact False.elim hq'
  |cont=>exact False.elim hq'
theorem TW(M:Mk X.K C f)(F:FnOk X.prog X.w X.K X.mg X.base CX k f fd ps sp)(hr:Room (k+1) X.A)(hg:Gl X x)(hm:X.mg x=some (.ref C))(hb:Binds X.K fd ps ds)(hd:Vals dvs ds)(hx:jM CX X E)
  (ha:PA X (e::es) t) (hdb:(x==("__debug__" : Str))=false:=by decide) (he:starEach (e::es) X.env=(false,eval e X.env)::starEach es X.env:=by rfl) (hpl:(backTo pos (starEach es X.env)).any (·.1)=false:=by rfl) :
  PE X (.Call (.Name x p) (e::es) [] pos) (L8 C sp dvs E t):=by
 intro pins s σ H Q I h
 refine wpAny_Call_Name_kw (WY I hg hm ?_ hdb)
 refine callWith_K (h₀:=X.base) I.ok.mod.kin M.kp (thn (ha pos pins s σ H _ I h) fun us s1 ⟨vs,H1,I1,r,q⟩=>⟨I1.kIn,?_⟩) he hpl
 exact GD M F hr hb hd hx I1 r q
end
section
variable{X:Cx}{CX:CXT}{k:Nat}{f C:Addr}{fd:FuncData}{ps ks:List Str}{sp:Sp}{E:XK}{x m:Str}{p pos apos kpos:Pos}{e o:Expr}{es:List Expr}{kws:List Keyword}{te ta:TE}{t tk:TA}{nm:Option Str}
variable{g:List Value→List Value→List Value}{gV:List V→List V→List V}
end
structure zD(N P:List Str)(sc:Scope):Prop where
 kind:sc.kind=.function
 co:sc.isCoroutine=false
 gen:sc.isGenerator=false
 nd:N.Nodup
 pre:N.take P.length=P
 par:∀x∈P,sc.names.lookup x=some .local∨sc.names.lookup x=some .cell
 nofree:∀y∈sc.names,y.2≠.free
theorem Wn{kindOf:Str→Option NameKind}{x:Str}:∀{binds:List (Str×Value)} {m:Str→Option Value},(∀v,(x,v)∉binds)→bindL kindOf binds m x=m x
 |[],_,_=>rfl
 | (n,v)::r,m,h=>by
  unfold bindL
  rw[Wn fun w hw=>h w (mem_cons_of_mem _ hw)]
  split
  ·have:x≠n:=by rintro rfl;exact h v mem_cons_self
   simp[this]
  ·rfl
theorem Wp{kindOf:Str→Option NameKind}{x:Str}:∀{binds:List (Str×Value)} {m:Str→Option Value},(∀v,(x,v)∉binds)→bindC kindOf binds m x=m x
 |[],_,_=>rfl
 | (n,v)::r,m,h=>by
  unfold bindC
  rw[Wp fun w hw=>h w (mem_cons_of_mem _ hw)]
  split
  ·rfl
  ·have:x≠n:=by rintro rfl;exact h v mem_cons_self
   simp[this]
theorem Wo{kindOf:Str→Option NameKind}{x:Str}{v:Value}:∀{P:List Str} {vs:List Value} {i:Nat} {m:Str→Option Value},P.Nodup→P[i]?=some x→vs[i]?=some v→kindOf x=some .local →
  bindL kindOf (P.zip vs) m x=some v
 |[],_,_,_,_,h,_,_=>by simp at h
 |_::_,[],_,_,_,_,h,_=>by simp at h
 |p::P,w::vs,0,m,nd,h1,h2,hk=>by
  simp at h1 h2;subst h1;subst h2
  show bindL kindOf ((p,w)::P.zip vs) m p=_
  unfold bindL
  rw[Wn fun v hv=>(nodup_cons.mp nd).1 (List.of_mem_zip hv).1,if_pos hk]
  simp
 |p::P,w::vs,i+1,m,nd,h1,h2,hk=>by
  show bindL kindOf ((p,w)::P.zip vs) m x=_
  unfold bindL
  exact Wo (i:=i) (nodup_cons.mp nd).2 (by simpa using h1) (by simpa using h2) hk
theorem Wq{kindOf:Str→Option NameKind}{x:Str}{v:Value}:∀{P:List Str} {vs:List Value} {i:Nat} {m:Str→Option Value},P.Nodup→P[i]?=some x→vs[i]?=some v→kindOf x≠some .local →
  bindC kindOf (P.zip vs) m x=some v
 |[],_,_,_,_,h,_,_=>by simp at h
 |_::_,[],_,_,_,_,h,_=>by simp at h
 |p::P,w::vs,0,m,nd,h1,h2,hk=>by
  simp at h1 h2;subst h1;subst h2
  show bindC kindOf ((p,w)::P.zip vs) m p=_
  unfold bindC
  rw[Wp fun v hv=>(nodup_cons.mp nd).1 (List.of_mem_zip hv).1,if_neg hk]
  simp
 |p::P,w::vs,i+1,m,nd,h1,h2,hk=>by
  show bindC kindOf ((p,w)::P.zip vs) m x=_
  unfold bindC
  exact Wq (i:=i) (nodup_cons.mp nd).2 (by simpa using h1) (by simpa using h2) hk
noncomputable def start(N:List Str)(vs:List V):St:=vs.map some++List.replicate (N.length-vs.length) none
noncomputable def jo(CX:CXT)(P:Program)(w:World)(K:Frag)(mg:Str→Option Value)(base:Heap)(N:List Str)(qual:Str)(scope:Scope)(f:Addr)(cd:Value)(A:Around)(outer:List Env)(s:Shared)(H:Hp)(E:XK):Cx where
 prog:=P
 w:=w
 K:=K
 mg:=mg
 base:=base
 A:=A.deeper (envOfC qual scope s.heap.objs.size f cd)
 N:=N
 s₀:=s
 H₀:=H
 env:=envOfC qual scope s.heap.objs.size f cd
 outer:=outer
 stack:=envOfC qual scope s.heap.objs.size f cd::outer
 ex:=[]
 calm:=true
 fn:=fun _=>true
 pn:=[]
 xe:=fun e s'=>wpAny (model P w) (A.deeper (envOfC qual scope s.heap.objs.size f cd)) (leaving (envOfC qual scope s.heap.objs.size f cd) e) (fun _ s''=>CX outer H s E e s'') (fun e' s''=>CX outer H s E e' s'') s'
theorem Ue{sc:Scope}{n:Nat}{x:Str}(h:sc.names.lookup x=some .cell):∃c,(cellsFrom n sc.names []).lookup x=some c:=by
 have q:=PySem.W.cellsFrom_some sc.names n [] (.inl h)
 exact Option.isSome_iff_exists.mp q
theorem Q3{CX:CXT}{P:Program}{w:World}{K:Frag}{mg:Str→Option Value}{base:Heap}{N ps:List Str}{qual:Str}{scope:Scope}{f:Addr}{cd:Value}{A:Around}{outer:List Env}{s s1:Shared}{H:Hp}{E:XK}{us:List Value}{vs:List V}
  (S:zD N ps scope) (hd:A.handled=none) (e0:Env0 P w K mg base A outer s H) (hl:vs.length=ps.length) (r:Vals vs us)
  (x:InCallC s s.heap.objs.size (bindL (envOfC qual scope s.heap.objs.size f cd).kindOf (ps.zip us) fun _=>none) (cellsFrom (s.heap.objs.size+1) scope.names []) (bindC (envOfC qual scope s.heap.objs.size f cd).kindOf (ps.zip us) fun _=>none) s1) :
  Inv (jo CX P w K mg base N qual scope f cd A outer s H E) [] (start N vs) H s1:=by
 have hpl:ps.length≤N.length:=by have:=congrArg List.length S.pre;rw[length_take] at this;lia
 refine byc fun zG_=>?_
 obtain⟨h1,tk,rfl,hk⟩:=x.done
 refine zG_ ?_
 have noA:∀b:Addr,b∉(jo CX P w K mg base N qual scope f cd A outer s H E).ex:=fun b z=>absurd (show b∈([]:List Addr) from z) (by simp)
 refine⟨⟨e0.mod,S.kind,rfl,rfl,le_refl _,fun y z c h1 h2=>?_,fun y hy=>?_,fun y c _ h=>?_,fun _=>hd,Around.frames_deeper e0.frames,.inr ⟨rfl,rfl⟩,fun b z=>absurd z (noA b),e0.bs,e0.bsz,fun b _ _=>noA b,fun b z=>absurd z (noA b),e0.funs,e0.frf⟩,
  rfl,e0.bare,Un.kept hk,⟨_,x.toInCall.ns,fun i y v h1 h2 h3=>?_⟩,fun y c h=>⟨_,x.cell y c h⟩,e0.hok.fresh (le_refl _),fun y c h=>?_,fun p hp=>absurd (show p∈([]:List (Addr×Obj)) from hp) (by simp),e0.hok.kept hk,?_⟩
 ·exact name_of_addr x.apart (PySem.mem_of_lookup h1) (PySem.mem_of_lookup h2)
 ·have hy:scope.names.lookup y=some .cell∨scope.names.lookup y=some .free:=hy
  rcases hy with hy|hy
  ·exact Ue hy
  ·exact absurd rfl (S.nofree _ (PySem.mem_of_lookup hy))
 ·exact le_of_lt (x.above y c (PySem.mem_of_lookup h))
 ·have hi:i<vs.length:=by
   unfold start at h2
   by_cases hi:i<vs.length
   ·exact hi
   ·rw[getElem?_append_right (by simpa using hi)] at h2
    rw[getElem?_replicate] at h2
    split at h2 <;> cases h2
  have ha:vs[i]?=some v:=by
   unfold start at h2
   rw[getElem?_append_left (by simpa using hi),getElem?_map] at h2
   cases e:vs[i]? with
   |none=>rw[e] at h2;cases h2
   |some a=>rw[e] at h2;cases h2;rfl
  obtain⟨u,hu,rv⟩:=r.get ha
  have hp:ps[i]?=some y:=by
   rw[← S.pre,List.getElem?_take_of_lt (by lia)];exact h1
  have ndP:ps.Nodup:=by rw[← S.pre];exact S.nd.sublist (List.take_sublist _ _)
  refine⟨u,rv,?_⟩
  rcases S.par y (mem_of_getElem? hp) with k|k
  ·exact .inl ⟨k,Wo ndP hp hu k⟩
  ·obtain⟨c,e⟩:=Ue (n:=s.heap.objs.size+1) k
   refine .inr ⟨.inl k,c,e,?_⟩
   have q:=x.cell y c e
   rw[Wq ndP hp hu (by show scope.names.lookup y≠_;rw[k];decide)] at q
   exact q
 ·exact e0.hok.fresh (le_of_lt (x.above y c (PySem.mem_of_lookup h)))
 ·unfold start
  show _=N.length
  rw[length_append,length_map,List.length_replicate]
  lia
theorem zb0{CX:CXT}{P:Program}{w:World}{K:Frag}{mg:Str→Option Value}{base:Heap}{k:Nat}{f:Addr}{name qual:Str}{params:Arguments}{body:List Stmt}{scope:Scope}{dV kV doc pm cdv ct oc:Value}{an od:Option Addr}
  {osl:Array (Option Value)} {N ps:List Str} {sp:Sp} (lk:K.lookup f=some ⟨oc,od,.func (fnOf name qual params body scope dV kV doc pm an cdv ct),osl⟩) (hcd:codeIn K cdv qual=true) (S:zD N ps scope)
  (len:∀vs H Q E,sp vs H Q E→vs.length=ps.length)
  (hbody:∀(A:Around) (outer:List Env) (s:Shared) (H:Hp) (vs:List V) (Q:VK) (E:XK),Room k (A.deeper (envOfC qual scope s.heap.objs.size f cdv))→sp vs H Q E →
   ∃t,PSs (jo CX P w K mg base N qual scope f cdv A outer s H E) body t∧t { nx:=fun _ H'=>Q .non H',rt:=Q } (start N vs) H) :
  FnOk P w K mg base CX (k+1) f (fnOf name qual params body scope dV kV doc pm an cdv ct) ps sp:=by
 refine⟨len,fun A outer s H args us vs Q E hr e0 hb r hsp=>?_⟩
 have hl:=len _ _ _ _ hsp
 have KX:K.In s.heap:=e0.mod.kin.keeps fun b o e=>(e0.bs b o e).1
 have lim:s.heap.NoLimit:=e0.mod.nolimit.keeps fun b o e=>(e0.bs b o e).1
 have hkind:∀y∈ps.zip us,scope.names.lookup y.1=some .local∨(scope.names.lookup y.1=some .cell∧((cellsFrom (s.heap.objs.size+1) scope.names []).lookup y.1).isSome=true):=fun ⟨n,v⟩ hy=>by
  rcases S.par n (List.of_mem_zip hy).1 with q|q
  ·exact .inl q
  ·exact .inr ⟨q,PySem.W.cellsFrom_some _ _ _ (.inl q)⟩
 refine codeAny_call_function hr.depth (KX _ _ lk) rfl S.co S.gen rfl (PySem.W.codeRec_of KX hcd) (hb _ _ _ _ ?_)
 refine wpAny_newFunctionEnv_cells S.kind hkind fun env he s1 x=>?_
 subst he
 refine⟨lim.keeps x.toInCall.keep,codeAny_func ?_⟩
 obtain⟨t,ht,hq⟩:=hbody A outer s H vs Q E (hr.deeper _) hsp
 have I:Inv (jo CX P w K mg base N qual scope f cdv A outer s H E) [] (start N vs) H s1:=Q3 S hr.hd e0 hl r x
 refine wpAny_mono (ht [] s1 (start N vs) H _ I hq) (fun fl s' hs=>?_) fun e s' hs=>hs
 have fin:∀{σ':St} {H':Hp} {v:V} {u:Value},Inv (jo CX P w K mg base N qual scope f cdv A outer s H E) [] σ' H' s'→RelV v u→Q v H'→CE outer P w H s Q u s':=
  fun {σ' H' v u} J rv q=>⟨v,H',J.os,J.bare,J.base,J.hok,rv,q⟩
 cases fl with
 |ret u=>
  refine byc fun zG_=>?_
  obtain⟨v,σ',H',J,rv,q⟩:=hs
  refine zG_ ?_
  exact fin J rv q
 |next=>
  refine byc fun zG_=>?_
  obtain⟨σ',H',J,q⟩:=hs
  refine zG_ ?_
  exact fin (v:=V.non) (u:=Value.none) J rfl q
 |brk=>
  refine byc fun zG_=>?_
  obtain⟨_,_,_,q⟩:=hs
  refine zG_ ?_
  exact False.elim q
 |cont=>
  refine byc fun zG_=>?_
  obtain⟨_,_,_,q⟩:=hs
  refine zG_ ?_
  exact False.elim q
section
variable{X:Cx}{x:Str}{p pos:Pos}{e:Expr}{es:List Expr}{t:TA}{id T:String}{r:List V→Hp→VK→Prop}
noncomputable def tCB(r:List V→Hp→VK→Prop)(t:TA):TE:=fun σ H Q=>t σ H fun vs H1=>r vs H1 Q
theorem pe_callB(hc:CallR X (.builtin id) r)(hg:Gl X x)(hm:X.mg x=none)(hv:bootBuiltins x=some (.builtin id))(ha:PA X (e::es) t)(hn:x ≠ "__name__" := by decide)(hdb:(x==("__debug__" : Str))=false:=by decide)
  (he:starEach (e::es) X.env=(false,eval e X.env)::starEach es X.env:=by rfl) (hpl:(backTo pos (starEach es X.env)).any (·.1)=false:=by rfl):PE X (.Call (.Name x p) (e::es) [] pos) (tCB r t):=by
 intro pins s σ H Q I h
 refine wpAny_Call_Name_kw (uv I hg hm hv ?_ hn hdb)
 exact PyProof.Rows.callWith_builtin1 (thn (ha pos pins s σ H _ I h) fun us s1 ⟨vs,H1,I1,r1,q1⟩=>hc pins s1 σ H1 vs us Q I1 r1 q1) he hpl
theorem pe_callTy(hc:CallR X (.type T) r)(hg:Gl X x)(hm:X.mg x=none)(hv:bootBuiltins x=some (.type T))(ha:PA X (e::es) t)(hn:x ≠ "__name__" := by decide)(hdb:(x==("__debug__" : Str))=false:=by decide)
  (he:starEach (e::es) X.env=(false,eval e X.env)::starEach es X.env:=by rfl) (hpl:(backTo pos (starEach es X.env)).any (·.1)=false:=by rfl):PE X (.Call (.Name x p) (e::es) [] pos) (tCB r t):=by
 intro pins s σ H Q I h
 refine wpAny_Call_Name_kw (uv I hg hm hv ?_ hn hdb)
 exact PyProof.Rows.callWith_type1 (thn (ha pos pins s σ H _ I h) fun us s1 ⟨vs,H1,I1,r1,q1⟩=>hc pins s1 σ H1 vs us Q I1 r1 q1) he hpl
end
end L2
namespace HT
open PySem PyProof.Rows
section
open PySem.SeqAt
open PySem.AutoSeq1 (wpAny_loadPart')
open PySem.MeetsSeq PySem.MeetsSeq2 PySem.MeetsSeq3
end
section
variable{prog:Program}{w:World}{A:Around}{E:Value→Shared→Prop}{s:Shared}
noncomputable def sIx(n d:Nat):Option Int→Nat
 |none=>d
 |some v=>if v<0 then (v+(n:Int)).toNat else min v.toNat n
end
end HT
namespace L2
open PySem PySem.Spec PyProof.Rows
noncomputable abbrev TO:=St→Hp→(Option Int→Hp→Prop)→Prop
noncomputable def PO(X:Cx)(e:Option Expr)(t:TO):Prop:=
 ∀(pins:List (Addr×Obj)) (s:Shared) (σ:St) (H:Hp) (Q:Option Int→Hp→Prop),Inv X pins σ H s→t σ H Q →
  wpAny (model X.prog X.w) X.A (evalPart e X.env) (fun u s'=>∃o H',Inv X pins σ H' s'∧IsPart u o∧Q o H') X.xe s
noncomputable def Tp:TO:=fun _ H Q=>Q none H
noncomputable def tPart(t:TE):TO:=fun σ H Q=>t σ H fun x H1=>∃i,x=.int i∧Q (some i) H1
section
variable{X:Cx}{e:Expr}{te:TE}{lo hi:Option Expr}{tl th:TO}{pos p2:Pos}
theorem TU:PO X none Tp:=by
 intro pins s σ H Q I h
 rw[evalPart_none]
 exact wpAny_pure ⟨none,H,I,.none,h⟩
theorem TR(h:PE X e te):PO X (some e) (tPart te):=by
 intro pins s σ H Q I hw
 rw[evalPart_some]
 refine thn (h pins s σ H _ I hw) fun u s1 z_=>?_
 refine byc fun zG_=>?_
 obtain⟨x,H1,I1,r1,q1⟩:=z_
 obtain⟨i,rfl,q⟩:=q1
 obtain⟨t,rfl⟩:=r1
 refine zG_ ?_
 exact⟨some i,H1,I1,.int i t,q⟩
noncomputable def SlR(X:Cx)(r:V→Option Int→Option Int→Hp→VK→Prop):Prop:=
 ∀(pins:List (Addr×Obj)) (s:Shared) (σ:St) (H:Hp) (x:V) (v vl vu:Value) (lo hi:Option Int) (sl:Addr) (Q:VK),Inv X pins σ H s→RelV x v→s.heap.IsSliceOf sl vl vu .none→IsPart vl lo→IsPart vu hi→r x lo hi H Q →
  ∃T id,typeLookup (.type T) "__getitem__" = pure (some (.builtin id))∧s.TypeIs v T∧wpAny (model X.prog X.w) X.A (getItem v (.ref sl)) (EP X pins σ Q) X.xe s
theorem SlR.or{r r':V→Option Int→Option Int→Hp→VK→Prop}(h:SlR X r)(h':SlR X r'):SlR X (fun x lo hi H Q=>r x lo hi H Q∨r' x lo hi H Q):=by
 intro pins s σ H x v vl vu lo hi sl Q I rx hs pl pu q
 rcases q with q|q
 ·exact h pins s σ H x v vl vu lo hi sl Q I rx hs pl pu q
 ·exact h' pins s σ H x v vl vu lo hi sl Q I rx hs pl pu q
noncomputable def tSl(r:V→Option Int→Option Int→Hp→VK→Prop)(te:TE)(tl th:TO):TE:=fun σ H Q=>te σ H fun x H1=>tl σ H1 fun l H2=>th σ H2 fun u H3=>r x l u H3 Q
theorem Vx{r:V→Option Int→Option Int→Hp→VK→Prop}(hr:SlR X r)(he:PE X e te)(hl:PO X lo tl)(hu:PO X hi th):PE X (.Subscript e (.Slice lo hi none p2) pos) (tSl r te tl th):=by
 intro pins s σ H Q I h
 refine Subscript_ (thn (he pins s σ H _ I h) fun v s1 z_=>?_)
 refine byc fun zG_=>?_
 obtain⟨x,H1,I1,r1,q1⟩:=z_
 refine zG_ ?_
 refine wpAny_Slice (thn (hl pins s1 σ H1 _ I1 q1) fun vl s2 ⟨l,H2,I2,pl,q2⟩=>thn (hu pins s2 σ H2 _ I2 q2) fun vu s3 z_=>?_)
 refine byc fun zG_=>?_
 obtain⟨u,H3,I3,pu,q3⟩:=z_
 refine zG_ ?_
 rw[evalPart_none]
 refine wpAny_pure ?_
 have I4:Inv X pins σ H3 { s3 with heap:=s3.heap.push { cls:=.type "slice", data:=.fields #[vl,vu,.none] } }:=I3.kept (t':=s3.toks) fun b ob q=>get?_push_of_some _ q
 refine byc fun zG_=>?_
 obtain⟨T,id,hT,ht,hg⟩:=hr pins { s3 with heap:=s3.heap.push { cls:=.type "slice", data:=.fields #[vl,vu,.none] } } σ H3 x v vl vu l u s3.heap.objs.size Q I4 r1 (Heap.IsSliceOf.new ..) pl pu q3
 refine zG_ ?_
 show wpAny (model X.prog X.w) X.A (subscriptTail e (.Slice lo hi none p2) v (.ref s3.heap.objs.size)) (EP X pins σ Q) X.xe { s3 with heap:=s3.heap.push { cls:=.type "slice", data:=.fields #[vl,vu,.none] } }
 exact tail_any (ops:=[.ref s3.heap.objs.size,v]) ht hT hg (by with_unfolding_all rfl)
noncomputable def U4(xs:List V)(lo hi:Option Int):List V:=(xs.drop (HT.sIx xs.length 0 lo)).take (HT.sIx xs.length xs.length hi-HT.sIx xs.length 0 lo)
theorem Ud(xs:List V)(lo hi:Option Int):(U4 xs lo hi).length≤xs.length:=by
 unfold U4
 rw[length_take,List.length_drop]
 lia
end
noncomputable def ixN(n:Nat)(i:Int):Option Nat:=if 0≤i then (if i<n then some i.toNat else none) else if -(n:Int)≤i then some (i+n).toNat else none
noncomputable def atI{α:Type}(xs:List α)(i:Int):Option α:=(ixN xs.length i).bind fun j=>xs[j]?
theorem JP{n:Nat}{i:Int}{j:Nat}(h:ixN n i=some j):seqIndex? i n=some j∧j<n∧-(n:Int)≤i∧i<n:=by
 unfold ixN at h
 by_cases h0:0≤i
 ·rw[if_pos h0] at h
  by_cases h1:i<n
  ·rw[if_pos h1] at h
   have e:i.toNat=j:=Option.some.inj h
   exact⟨by rw[seqIndex_of h0 h1,e],by lia,by lia,h1⟩
  ·rw[if_neg h1] at h;cases h
 ·rw[if_neg h0] at h
  by_cases h1 : -(n:Int)≤i
  ·rw[if_pos h1] at h
   have e:(i+n).toNat=j:=Option.some.inj h
   exact⟨by rw[seqIndex_neg (by lia) h1,e],by lia,h1,by lia⟩
  ·rw[if_neg h1] at h;cases h
theorem Vd{α:Type}{xs:List α}{i:Int}{v:α}(h:atI xs i=some v):∃j,seqIndex? i xs.length=some j∧xs[j]?=some v∧j<xs.length∧-(xs.length:Int)≤i∧i<xs.length:=by
 unfold atI at h
 cases e:ixN xs.length i with
 |none=>rw[e] at h;cases h
 |some j=>
  rw[e] at h
  refine byc fun zG_=>?_
  obtain⟨h1,h2,h3,h4⟩:=JP e
  refine zG_ ?_
  exact⟨j,h1,h,h2,h3,h4⟩
theorem Vc{α:Type}{xs:List α}{j:Nat}{v:α}(h:xs[j]?=some v):atI xs (j:Int)=some v:=by
 have hj:j<xs.length:=(List.getElem?_eq_some_iff.mp h).1
 have e:ixN xs.length (j:Int)=some j:=by
  unfold ixN
  rw[if_pos (by lia),if_pos (by lia)];simp
 unfold atI;rw[e];exact h
noncomputable def vo(b:Expr):Prop:=∀o i,subscripted b false o i=operate [o,i] (getItem o i)
noncomputable def IxR(X:Cx)(r:R2):Prop:=
 ∀(value slice:Expr) (pins:List (Addr×Obj)) (s:Shared) (σ:St) (H:Hp) (x y:V) (v u:Value) (Q:VK),Inv X pins σ H s→RelV x v→RelV y u→r x y H Q →
  subscripted slice false v u=operate [v,u] (getItem v u)→wpAny (model X.prog X.w) X.A (subscriptTail value slice v u) (EP X pins σ Q) X.xe s
noncomputable def MtR(X:Cx)(id:String)(r:V→List V→Hp→VK→Prop):Prop:=
 ∀(pins:List (Addr×Obj)) (s:Shared) (σ:St) (H:Hp) (x:V) (xs:List V) (v:Value) (us:List Value) (Q:VK),Inv X pins σ H s→RelV x v→Vals xs us→r x xs H Q →
  wpAny (model X.prog X.w) X.A (call (.builtin id) (v::us)) (EP X pins σ Q) X.xe s
section
variable{X:Cx}{a b:Expr}{ta tb:TE}{pos:Pos}
theorem IxR.or{r r':R2}(h:IxR X r)(h':IxR X r'):IxR X (fun x y H Q=>r x y H Q∨r' x y H Q):=by
 intro value slice pins s σ H x y v u Q I rx ry q hs
 rcases q with q|q
 ·exact h value slice pins s σ H x y v u Q I rx ry q hs
 ·exact h' value slice pins s σ H x y v u Q I rx ry q hs
theorem ZU{r:R2}(hr:IxR X r)(ha:PE X a ta)(hb:PE X b tb)(hs:vo b):PE X (.Subscript a b pos) (tOp r ta tb):=by
 intro pins s σ H Q I h
 exact Subscript_ (zj5 ha hb I h fun v u s2 x y H2 I2 rx ry q=>hr a b pins s2 σ H2 x y v u Q I2 rx ry q (hs _ _))
noncomputable def rIxL(K:Frag):R2:=fun x y H Q=>∃p xs i v,x=.ref p∧y=.int i∧SqL K H p xs∧atI xs i=some v∧Q v H
noncomputable def rIxT(K:Frag):R2:=fun x y H Q=>∃p xs i v,x=.ref p∧y=.int i∧SqT K H p xs∧atI xs i=some v∧Q v H
noncomputable def rIxS:R2:=fun x y H Q=>∃z i c,x=.str z∧y=.int i∧z.length≤sizeLine∧atI z.cps.toList i=some c∧Q (.str ⟨#[c]⟩) H
theorem ix_list:IxR X (rIxL X.K):=by
 intro value slice pins s σ H x y v u Q I rx ry h hs
 refine byc fun zG_=>?_
 obtain⟨p,xs,i,z,rfl,rfl,hq,he,q⟩:=h
 refine zG_ ?_
 cases rx
 refine byc fun zG_=>?_
 obtain⟨t,rfl⟩:=ry
 obtain⟨its,r,pl,hz⟩:=I.list hq
 obtain⟨j,h1,h2,h3,h4,h5⟩:=Vd he
 obtain⟨w,ew,rw'⟩:=r.get h2
 refine zG_ ?_
 have hl:=r.length
 have hn:=jG
 have fin:EP X pins σ Q w s:=⟨z,H,I,rw',q⟩
 by_cases h0:0≤i
 ·have hj:i.toNat=j:=by
   rw[seqIndex_of h0 h5] at h1
   exact Option.some.inj h1
  exact item_listR pl.isList h0 (by lia) (by rw[hj];simpa using ew) fin hs
 ·have hj:(i+(its.toArray.size:Int)).toNat=j:=by
   rw[seqIndex_neg (by lia) h4] at h1
   rw[size_toArray,← hl]
   exact Option.some.inj h1
  exact subscriptTail_builtinR (x:=w) pl.isList.typeIs slot_list_getitem.lookup
   (wpAny_getItem_list_neg (Q:=fun r s'=>r=w∧EP X pins σ Q r s') pl.isList (by lia) (by rw[size_toArray] <;> lia) (by lia) (by rw[hj];simpa using ew) ⟨rfl,fin⟩) hs
theorem ix_tup:IxR X (rIxT X.K):=by
 intro value slice pins s σ H x y v u Q I rx ry h hs
 refine byc fun zG_=>?_
 obtain⟨p,xs,i,z,rfl,rfl,hq,he,q⟩:=h
 refine zG_ ?_
 cases rx
 refine byc fun zG_=>?_
 obtain⟨t,rfl⟩:=ry
 obtain⟨its,r,pl,hz⟩:=I.tuple hq
 obtain⟨j,h1,h2,h3,h4,h5⟩:=Vd he
 obtain⟨w,ew,rw'⟩:=r.get h2
 refine zG_ ?_
 have hl:=r.length
 have hn:=jG
 have fin:EP X pins σ Q w s:=⟨z,H,I,rw',q⟩
 exact subscriptTail_builtinR (x:=w) pl.typeIs slot_tuple_getitem.lookup
  (getItem_tuple (j:=j) (Q:=fun r s'=>r=w∧EP X pins σ Q r s') pl (by lia) (by lia) (by rw[size_toArray,← hl];exact h1) (by simpa using ew) ⟨rfl,fin⟩) hs
theorem zh8:IxR X rIxS:=by
 intro value slice pins s σ H x y v u Q I rx ry h hs
 refine byc fun zG_=>?_
 obtain⟨z,i,c,rfl,rfl,hz,he,q⟩:=h
 obtain⟨t,rfl⟩:=rx
 obtain⟨t',rfl⟩:=ry
 obtain⟨j,h1,h2,h3,h4,h5⟩:=Vd he
 refine zG_ ?_
 have hl:z.cps.toList.length=z.length:=by simp[Str.length]
 rw[hl] at h1 h4 h5
 have hn:=jG
 exact tail_any (typeIs_str s z t) slot_str_getitem.lookup (getItem_str (c:=c) (by
  have e1:decide (i < -(2 ^ 63:Int))=false:=decide_eq_false (by lia)
  have e2:decide (i ≥ 2 ^ 63)=false:=decide_eq_false (by lia)
  rw[e1,e2,Bool.or_false]) (by rw[h1];simpa using h2) ⟨.str ⟨#[c]⟩,H,I.tok _,⟨_,rfl⟩,q⟩) hs
noncomputable def rIx(K:Frag):R2:=fun x y H Q=>rIxL K x y H Q∨rIxT K x y H Q∨rIxS x y H Q
theorem zh9:IxR X (rIx X.K):=ix_list.or (ix_tup.or zh8)
theorem UO(its:List Value)(n j:Nat)(u:Value):Obj.mapSeq (·.setIfInBounds j u) { cls:=.type "list", data:=.seq its.toArray n } = { cls:=.type "list", data:=.seq (its.set j u).toArray n }:=by
 simp[Obj.mapSeq]
theorem Inv.lst{pins:List (Addr×Obj)}{σ:St}{H:Hp}{s:Shared}{p:Addr}{xs:List V}(I:Inv X pins σ H s)(h:H p=some (.lst xs)) :
  ∃(its:List Value) (n:Nat),Vals xs its∧s.heap.get? p=some { cls:=.type "list", data:=.seq its.toArray n }∧xs.length≤sizeLine:=by
 refine byc fun zG_=>?_
 obtain⟨z,its,n,r,e⟩:=I.hok p _ h
 refine zG_ ?_
 exact⟨its,n,r,e,z⟩
theorem Inv.lstUpd{pins:List (Addr×Obj)}{σ:St}{H:Hp}{s:Shared}{p:Addr}{xs ys:List V}{its its':List Value}{n n':Nat}{f:Obj→Obj}(I:Inv X pins σ H s)(h:H p=some (.lst xs))
  (ho:s.heap.get? p=some { cls:=.type "list", data:=.seq its.toArray n }) (hf:f { cls:=.type "list", data:=.seq its.toArray n } = { cls:=.type "list", data:=.seq its'.toArray n' }) (r:Vals ys its') (hz:ys.length≤sizeLine) (t:Nat) :
  Inv X pins σ (upd H p (.lst ys)) { s with heap:=s.heap.update p f,toks:=t }:=by
 have e:(s.heap.update p f).get? p=some { cls:=.type "list", data:=.seq its'.toArray n' }:=by
  rw[Heap.get?_update_self f ho (by rw[hf] <;> rfl),hf]
 refine I.write (x:=p) (e:=p) (by rw[h];trivial) (.inl rfl) (fun b u hb q=>(Heap.get?_update_other _ _ (Ne.symm hb)).trans q) ⟨_,e⟩ ?_
 exact⟨hz,its',n',r,e⟩
noncomputable def rSetL:V→V→V→Hp→(Hp→Prop)→Prop:=fun o i v H Q=>∃p xs k j,o=.ref p∧i=.int k∧H p=some (.lst xs)∧ixN xs.length k=some j∧Q (upd H p (.lst (xs.set j v)))
theorem Gy:PSet X rSetL:=by
 intro pins s σ H o i v ov iv u Q I ro ri rv h
 refine byc fun zG_=>?_
 obtain⟨p,xs,k,j,rfl,rfl,hp,hj,q⟩:=h
 refine zG_ ?_
 cases ro
 refine byc fun zG_=>?_
 obtain⟨t,rfl⟩:=ri
 obtain⟨its,n,r,ho,hz⟩:=I.lst hp
 obtain⟨h1,h2,h3,h4⟩:=JP hj
 refine zG_ ?_
 have hl:=r.length
 have hn:=jG
 have I':Inv X pins σ (upd H p (.lst (xs.set j v))) { s with heap:=s.heap.update p (Obj.mapSeq (·.setIfInBounds j u)) }:=
  I.lstUpd hp ho (UO its n j u) (r.set rv j) (by rw[length_set];exact hz) s.toks
 by_cases h0:0≤k
 ·have hk:k.toNat=j:=by
   rw[seqIndex_of h0 h4] at h1
   exact Option.some.inj h1
  exact PySem.W.ki_setAt ho h0 (by lia) (by rw[size_toArray,← hl];exact h4) (by rw[hk];exact⟨_,I',q⟩)
 ·have hk:(k+(its.toArray.size:Int)).toNat=j:=by
   rw[seqIndex_neg (by lia) h3] at h1
   rw[size_toArray,← hl]
   exact Option.some.inj h1
  exact PySem.W.ki_setBack ho (by lia) (by rw[size_toArray,← hl];exact h3) (by lia) (by rw[hk];exact⟨_,I',q⟩)
theorem Ww(lo hi:Option Int)(n:Nat):(sliceBounds lo hi none n).1=((HT.sIx n 0 lo:Nat):Int)∧(sliceBounds lo hi none n).2.1=((HT.sIx n n hi:Nat):Int)∧(sliceBounds lo hi none n).2.2=1:=by
 refine⟨?_,?_,rfl⟩
 ·cases lo with
  |none=>simp[sliceBounds,HT.sIx]
  |some i=>
   simp only[sliceBounds,HT.sIx,Option.getD_none,show(1:Int) > 0 by decide,if_true]
   by_cases h:i<0
   ·simp only[h,if_true] <;> lia
   ·simp only[h,if_false] <;> lia
 ·cases hi with
  |none=>simp[sliceBounds,HT.sIx]
  |some i=>
   simp only[sliceBounds,HT.sIx,Option.getD_none,show(1:Int) > 0 by decide,if_true]
   by_cases h:i<0
   ·simp only[h,if_true] <;> lia
   ·simp only[h,if_false] <;> lia
theorem Xv(its:List Value)(lo hi:Option Int):slicePick its.toArray lo hi none=((its.drop (HT.sIx its.length 0 lo)).take (HT.sIx its.length its.length hi-HT.sIx its.length 0 lo)).toArray:=by
 obtain⟨h1,h2,h3⟩:=Ww lo hi its.toArray.size
 unfold slicePick
 rw[h1,h2,h3]
 simp only[sliceRange_one,pick_run,size_toArray] <;> rfl
noncomputable def rSlL(K:Frag):V→Option Int→Option Int→Hp→VK→Prop:=fun x lo hi H Q=>∃a xs,x=.ref a∧SqL K H a xs∧∀p,H p=none→Q (.ref p) (upd H p (.lst (U4 xs lo hi)))
theorem Jl:SlR X (rSlL X.K):=by
 intro pins s σ H x v vl vu lo hi sl Q I rx hs pl pu h
 refine byc fun zG_=>?_
 obtain⟨a,xs,rfl,hx,q⟩:=h
 refine zG_ ?_
 cases rx
 refine byc fun zG_=>?_
 obtain⟨its,r,ht,hz⟩:=I.list hx
 refine zG_ ?_
 have hlen:=r.length
 refine⟨"list", _,slot_list_getitem.lookup,ht.isList.typeIs,?_⟩
 refine wpAny_getItem_list_slice ht.isList hs pl pu .none (by simp) ?_ (by rw[size_toArray] <;> lia)
 rw[Xv,← hlen]
 refine⟨.ref s.heap.objs.size,_,I.laid (t':=s.toks) (o:=.lst (U4 xs lo hi)) (fun b ob q=>get?_push_of_some _ q) (le_refl _) ?_,rfl,q _ (I.hok.fresh (le_refl _))⟩
 exact⟨le_trans (Ud xs lo hi) hz,_,0,(r.drop (HT.sIx xs.length 0 lo)).take (HT.sIx xs.length xs.length hi-HT.sIx xs.length 0 lo),Heap.get?_push_size _ rfl⟩
theorem call_len_seq:CallR X (.builtin "len") (fun xs H Q=>∃p ys,xs=[.ref p]∧(SqL X.K H p ys∨SqT X.K H p ys)∧Q (.int ys.length) H):=by
 intro pins s σ H xs us Q I r h
 refine byc fun zG_=>?_
 obtain⟨p,ys,rfl,hq,q⟩:=h
 obtain⟨u,rfl,rx⟩:=vals1 r
 refine zG_ ?_
 cases rx
 have hn:=jG
 rcases hq with hq|hq
 ·refine byc fun zG_=>?_
  obtain⟨its,r',pl,hz⟩:=I.list hq
  refine zG_ ?_
  have hlen:=r'.length
  exact Calls.call_len_list pl.isList (by simp only[size_toArray] <;> lia) ⟨.int ys.length,H,I.tok _,⟨s.toks+1,by rw[size_toArray,hlen]⟩,q⟩
 ·refine byc fun zG_=>?_
  obtain⟨its,r',pl,hz⟩:=I.tuple hq
  refine zG_ ?_
  have hlen:=r'.length
  exact len_tuple pl (by simp only[size_toArray] <;> lia) ⟨.int ys.length,H,I.tok _,⟨s.toks+1,by rw[size_toArray,hlen]⟩,q⟩
theorem Va:CallR X (.builtin "len") (fun xs H Q=>∃z,xs=[.str z]∧z.length≤sizeLine∧Q (.int z.length) H):=by
 intro pins s σ H xs us Q I r h
 refine byc fun zG_=>?_
 obtain⟨z,rfl,hz,q⟩:=h
 obtain⟨u,rfl,t,rfl⟩:=vals1 r
 refine zG_ ?_
 have hn:=jG
 exact len_str (by lia) ⟨.int z.length,H,I.tok _,⟨_,rfl⟩,q⟩
theorem CallR.or{f:Value}{r r':List V→Hp→VK→Prop}(h:CallR X f r)(h':CallR X f r'):CallR X f (fun xs H Q=>r xs H Q∨r' xs H Q):=by
 intro pins s σ H xs us Q I rs q
 rcases q with q|q
 ·exact h pins s σ H xs us Q I rs q
 ·exact h' pins s σ H xs us Q I rs q
theorem Zm:CallR X (.type "list") (fun xs H Q=>∃p ys,xs=[.ref p]∧(SqL X.K H p ys∨SqT X.K H p ys)∧∀l,H l=none→Q (.ref l) (upd H l (.lst ys))):=by
 intro pins s σ H xs us Q I r h
 refine byc fun zG_=>?_
 obtain⟨p,ys,rfl,hq,q⟩:=h
 obtain⟨u,rfl,rx⟩:=vals1 r
 refine zG_ ?_
 cases rx
 have fin:∀(its:List Value),Vals ys its→ys.length≤sizeLine→∀(h':Heap) (c':Nat),(∀b o',s.heap.get? b=some o'→h'.get? b=some o') →
   h'.get? s.heap.objs.size=some { cls:=.type "list", dict:=none,data:=.seq its.toArray c',slots:=#[] }→EP X pins σ Q (.ref s.heap.objs.size) { s with heap:=h' }:=fun its r' hz h' c' kp e=>
  ⟨.ref s.heap.objs.size,_,I.laid (t':=s.toks) kp (le_refl _) (show ObjOk X.prog X.w _ h' _ (.lst ys) from ⟨hz,its,c',r',e⟩),rfl,q _ (I.hok.fresh (le_refl _))⟩
 rcases hq with hq|hq
 ·refine byc fun zG_=>?_
  obtain⟨its,r',pl,hz⟩:=I.list hq
  have hlen:=r'.length
  obtain⟨o,ho,hc,n,hd⟩:=pl.isList
  refine zG_ ?_
  exact call_list_seq p (.inl rfl) ho hc hd (fun h' c' kp e=>fin its r' hz h' c' kp e) (by simp only[size_toArray] <;> lia)
 ·refine byc fun zG_=>?_
  obtain⟨its,r',pl,hz⟩:=I.tuple hq
  have hlen:=r'.length
  obtain⟨o,ho,hc,n,hd⟩:=pl
  refine zG_ ?_
  exact call_list_seq p (.inr rfl) ho hc hd (fun h' c' kp e=>fin its r' hz h' c' kp e) (by simp only[size_toArray] <;> lia)
noncomputable def tyV(K:Frag)(T:String)(x:V)(H:Hp):Prop:=match x with
 |.str _=>T = "str"
 |.int _=>T = "int"
 |.ref p=>(T = "list" ∧ ∃xs,SqL K H p xs)∨(T = "tuple" ∧ ∃o,K.lookup p=some o∧o.cls=.type "tuple" ∧ o.dict=none) ∨
   (T = "dict" ∧ ((∃kvs,H p=some (.dK kvs))∨∃kvs,H p=some (.dT kvs)))∨(T = "set" ∧ ∃S n,H p=some (.set S n))
 |_=>False
theorem Gj{pins:List (Addr×Obj)}{σ:St}{H:Hp}{s:Shared}{T:String}{x:V}{v:Value}(I:Inv X pins σ H s)(r:RelV x v)(ty:tyV X.K T x H) :
  s.TypeIs v T∧∀a,v=.ref a→∃ob,s.heap.get? a=some ob∧ob.dict=none:=by
 cases x with
 |str z=>
  obtain⟨t,rfl⟩:=r
  cases (show T = "str" from ty)
  exact⟨typeIs_str s z t,fun _ e=>nomatch e⟩
 |int i=>
  obtain⟨t,rfl⟩:=r
  cases (show T = "int" from ty)
  exact⟨typeIs_int s i t,fun _ e=>nomatch e⟩
 |ref p=>
  cases r
  rcases ty with ⟨rfl,xs,hq⟩|⟨rfl,o,hk,hc,hd⟩|⟨rfl,hk⟩|⟨rfl,S,n,hk⟩
  ·refine byc fun zG_=>?_
   obtain⟨its,_,pl,_⟩:=I.list hq
   refine zG_ ?_
   refine⟨pl.isList.typeIs,fun a e=>?_⟩
   cases e
   refine byc fun zG_=>?_
   obtain⟨o,n,e,c,hd,_⟩:=pl
   refine zG_ ?_
   exact⟨o,e,hd⟩
  ·refine⟨⟨o,I.kIn p o hk,hc⟩,fun a e=>?_⟩
   cases e
   exact⟨o,I.kIn _ o hk,hd⟩
  ·have z:∃o,s.heap.get? p=some o∧o.ExactDict:=by
    rcases hk with ⟨kvs,hk⟩|⟨kvs,hk⟩
    ·refine byc fun zG_=>?_
     obtain⟨_,_,_,_,o,_,_,e,ex,_⟩:=I.hok p _ hk
     refine zG_ ?_
     exact⟨o,e,ex⟩
    ·refine byc fun zG_=>?_
     obtain⟨_,_,_,_,o,_,_,e,ex,_⟩:=I.hok p _ hk
     refine zG_ ?_
     exact⟨o,e,ex⟩
   obtain⟨o,e,ex⟩:=z
   refine⟨⟨o,e,ex.1⟩,fun a e2=>?_⟩
   cases e2
   exact⟨o,e,ex.2.1⟩
  ·refine byc fun zG_=>?_
   obtain⟨o,_,_,_,e,ex,_⟩:=I.hok p _ hk
   refine zG_ ?_
   refine⟨⟨o,e,ex.1⟩,fun a e2=>?_⟩
   cases e2
   exact⟨o,e,ex.2.1⟩
 |_=>exact False.elim ty
noncomputable def tBM0(K:Frag)(T:String)(r:V→List V→Hp→VK→Prop)(to:TE):TE:=fun σ H Q=>to σ H fun x H1=>tyV K T x H1∧r x [] H1 Q
noncomputable def tBM(K:Frag)(T:String)(r:V→List V→Hp→VK→Prop)(to:TE)(t:TA):TE:=fun σ H Q=>to σ H fun x H1=>tyV K T x H1∧t σ H1 fun xs H2=>r x xs H2 Q
variable{o e:Expr}{es:List Expr}{to:TE}{t:TA}{name:Str}{apos cpos:Pos}{T id:String}{r:V→List V→Hp→VK→Prop}
theorem GT(pa:PlainAttrs T)(slot:Slot T name id)(hty:typeOf (.builtin id)=pure (.type "method_descriptor"))(hm:MtR X id r)(ho:PE X o to)
  (hbase:attributeBase o name X.env (eval o X.env)=eval o X.env:=by rfl) (hline:(apos.endLine==cpos.line)=true:=by rfl):PE X (.Call (.Attribute o name apos) [] [] cpos) (tBM0 X.K T r to):=by
 intro pins s σ H Q I h
 refine wpAny_Call_method0_late hbase hline (thn (ho pins s σ H _ I h) fun v s1 z_=>?_)
 refine byc fun zG_=>?_
 obtain⟨x,H1,I1,r1,ty,q1⟩:=z_
 obtain⟨h1,h2⟩:=Gj I1 r1 ty
 refine zG_ ?_
 exact⟨T,id,pa,slot,hty,h1,h2,Calls.callWith_builtin rfl (PySem.evalArgs_none (hm pins s1 σ H1 x [] v [] Q I1 r1 .nil q1))⟩
theorem Jx(pa:PlainAttrs T)(slot:Slot T name id)(hty:typeOf (.builtin id)=pure (.type "method_descriptor"))(hm:MtR X id r)(ho:PE X o to)(ha:PA X (e::es) t)
  (hbase:attributeBase o name X.env (eval o X.env)=eval o X.env:=by rfl)
  (hfew:((backTo cpos (starEach (e::es) X.env)).all (fun x=>!x.1)&&(backToKw cpos (keywordEach [] X.env)).all (fun x=>x.1.isSome)
   && decide ((e::es).length+([]:List Keyword).length+(if ([]:List Keyword).isEmpty then 0 else 1)<30))=true:=by rfl)
  (hline:(apos.endLine==cpos.line)=true:=by rfl) (hs:starEach (e::es) X.env=(false,eval e X.env)::starEach es X.env:=by rfl) (hplain:(backTo cpos (starEach es X.env)).any (·.1)=false:=by rfl) :
  PE X (.Call (.Attribute o name apos) (e::es) [] cpos) (tBM X.K T r to t):=by
 intro pins s σ H Q I h
 refine wpAny_Call_method_late hbase hfew hline rfl (thn (ho pins s σ H _ I h) fun v s1 z_=>?_)
 refine byc fun zG_=>?_
 obtain⟨x,H1,I1,r1,ty,q1⟩:=z_
 obtain⟨h1,h2⟩:=Gj I1 r1 ty
 refine zG_ ?_
 refine⟨T,id,pa,slot,hty,h1,h2,?_⟩
 have hA:=ha cpos pins s1 σ H1 _ I1 q1
 rw[hs] at hA ⊢
 refine Calls.callWith_builtin (by show(false||(backTo cpos (starEach es X.env)).any (·.1))=false;rw[hplain] <;> rfl) (Calls.evalArgs_plain ?_)
 exact thn hA fun us s2 z_=>by obtain⟨vs,H2,I2,r2,q2⟩:=z_;exact hm pins s2 σ H2 x vs v us Q I2 r1 r2 q2
end
noncomputable def MtM(X:Cx)(id:String)(r:V→List V→Hp→VK→Prop):Prop:=
 ∀(pins:List (Addr×Obj)) (s:Shared) (σ:St) (H:Hp) (x:V) (xs:List V) (v:Value) (us:List Value) (Q:VK),Inv X pins σ H s→RelV x v→Vals xs us→r x xs H Q →
  wpAny (model X.prog X.w) X.A (call (.builtin id) (v::us)) (EP X pins σ Q) X.xe s
theorem Vals.one{x:V}{us:List Value}(h:Vals [x] us):∃u,us=[u]∧RelV x u:=by
 cases h with
 |cons r h=>cases h;exact⟨_,rfl,r⟩
theorem Vals.zero:∀{us:List Value},Vals [] us→us=[]
 |_,.nil=>rfl
theorem Vals.dropLast{xs:List V}{us:List Value}(h:Vals xs us):Vals xs.dropLast us.dropLast:=by
 induction h with
 |nil=>exact .nil
 |cons r t ih=>
  cases t with
  |nil=>exact .nil
  |cons q t'=>exact .cons r ih
theorem Vals.rep{xs:List V}{us:List Value}(h:Vals xs us):∀k:Nat,Vals (List.replicate k xs).flatten (List.replicate k us).flatten:=by
 intro l_
 induction l_ with
 |zero=>
  exact .nil
 |succ k ih_=>
  rw[replicate_succ,replicate_succ,flatten_cons,flatten_cons]
  exact Vals.append h (ih_)
theorem UY{α:Type}(l:List α):l.eraseIdx (l.length-1)=l.dropLast:=by
 induction l with
 |nil=>rfl
 |cons a r ih=>
  cases r with
  |nil=>rfl
  |cons b r=>
   have e:(a::b::r).length-1=((b::r).length-1)+1:=by
    have h1:(a::b::r).length=r.length+2:=rfl
    have h2:(b::r).length=r.length+1:=rfl
    lia
   rw[e,List.eraseIdx_cons_succ,ih]
   all_goals rfl
theorem foldl_rep(its:List Value):∀(k:Nat) (acc:List Value),
  List.foldl (fun x1 x2=>x1++x2) acc.toArray (List.replicate k its.toArray)=(acc++(List.replicate k its).flatten).toArray:=by
 intro l_
 induction l_ with
 |zero=>
  rintro acc
  simp
 |succ k ih_=>
  rintro acc
  have e:acc.toArray++its.toArray=(acc++its).toArray:=by simp
  have e2:(acc++its)++(List.replicate k its).flatten=acc++(List.replicate (k+1) its).flatten:=by
   rw[replicate_succ,flatten_cons,append_assoc]
  rw[← e2,← ih_ (acc++its),← e,replicate_succ,foldl_cons]
section
variable{X:Cx}{pins:List (Addr×Obj)}{σ:St}{H:Hp}{s:Shared}{l b:Addr}{xs ys zs:List V}
theorem Inv.lset{its its':List Value}{n:Nat}{f:Array Value→Array Value}{t':Nat}(I:Inv X pins σ H s)(hH:H l=some (.lst xs))
  (e:s.heap.get? l=some { cls:=.type "list", data:=.seq its.toArray n }) (hf:f its.toArray=its'.toArray) (hv:Vals ys its') (hz:ys.length≤sizeLine) :
  Inv X pins σ (upd H l (.lst ys)) { s with heap:=s.heap.update l (Obj.mapSeq f),toks:=t' }:=by
 have q:=PySem.IsL.update e f
 rw[hf] at q
 refine I.write (x:=l) (e:=l) (by rw[hH];exact trivial) (.inl rfl) (fun b' u hb hu=>(Heap.get?_update_other s.heap (Obj.mapSeq f) (Ne.symm hb)).trans hu) ⟨_,q⟩ ?_
 exact⟨hz,its',_,hv,q⟩
theorem Inv.lnew{its:List Value}{t':Nat}(I:Inv X pins σ H s)(hv:Vals ys its)(hz:ys.length≤sizeLine) :
  Inv X pins σ (upd H s.heap.objs.size (.lst ys)) { s with heap:=s.heap.push { cls:=.type "list", data:=.seq its.toArray },toks:=t' }:=
 I.laid (fun _ _ q=>get?_push_of_some _ q) (le_refl _) ⟨hz,its,0,hv,Heap.get?_push_size _ rfl⟩
theorem Inv.fresh(I:Inv X pins σ H s):H s.heap.objs.size=none:=I.hok.fresh (le_refl _)
theorem Inv.lstM(I:Inv X pins σ H s)(hH:H l=some (.lst xs)):xs.length≤sizeLine∧∃(its:List Value) (n:Nat),Vals xs its∧xs.length=its.length∧s.heap.get? l=some { cls:=.type "list", data:=.seq its.toArray n }:=by
 refine byc fun zG_=>?_
 obtain⟨z,its,n,r,e⟩:=I.hok l _ hH
 refine zG_ ?_
 exact⟨z,its,n,r,r.length,e⟩
theorem Mi{n:Nat}(h:n≤sizeLine):Builtin.List.listTooLong n=false:=by
 unfold Builtin.List.listTooLong
 exact decide_eq_false (by lia)
end
section
variable{X:Cx}
noncomputable def TF:V→List V→Hp→VK→Prop:=fun x vs H Q=>∃l xs y,x=.ref l∧vs=[y]∧H l=some (.lst xs)∧xs.length<sizeLine∧Q .non (upd H l (.lst (xs++[y])))
theorem ua:MtM X "list.append" TF:=by
 intro pins s σ H x vs v us Q I rx rv h
 refine byc fun zG_=>?_
 obtain⟨l,xs,y,rfl,rfl,hH,hz,q⟩:=h
 refine zG_ ?_
 cases rx
 refine byc fun zG_=>?_
 obtain⟨u,rfl,ru⟩:=rv.one
 obtain⟨z,its,n,r,hl,e⟩:=I.lstM hH
 refine zG_ ?_
 refine call_meets F.slot_list_append ⟨_,e,rfl⟩ F.entry_list_append (F.args_list_append_2 _ _) (PySem.list_append l its.toArray n u (by rw[size_toArray];lia)) ⟨e,?_⟩
 refine⟨.non,_,I.lset (its':=its++[u]) hH e (by simp) (r.append (.cons ru .nil)) ?_,rfl,q⟩
 rw[length_append,length_singleton]
 lia
noncomputable def rPop:V→List V→Hp→VK→Prop:=fun x vs H Q=>∃l xs y,x=.ref l∧vs=[]∧H l=some (.lst xs)∧xs[xs.length-1]?=some y∧Q y (upd H l (.lst xs.dropLast))
theorem zg6:MtM X "list.pop" rPop:=by
 intro pins s σ H x vs v us Q I rx rv h
 refine byc fun zG_=>?_
 obtain⟨l,xs,y,rfl,rfl,hH,hy,q⟩:=h
 refine zG_ ?_
 cases rx
 have hus:=rv.zero
 subst hus
 refine byc fun zG_=>?_
 obtain⟨z,its,n,r,hl,e⟩:=I.lstM hH
 obtain⟨u,hu,ru⟩:=r.get hy
 refine zG_ ?_
 have hy':its.toArray[its.toArray.size-1]?=some u:=by
  show its.toArray[its.length-1]?=some u
  rw[← Array.getElem?_toList,← hl]
  exact hu
 refine call_meets F.slot_list_pop ⟨_,e,rfl⟩ F.entry_list_pop (F.args_list_pop_1 _) (MeetsSeq.list_pop_last l its.toArray n u hy' (by rw[size_toArray];lia)) ⟨e,?_⟩
 refine⟨y,_,I.lset (its':=its.dropLast) hH e ?_ r.dropLast ?_,ru,q⟩
 ·show its.toArray.eraseIdxIfInBounds (its.toArray.size-1)=its.dropLast.toArray
  rw[size_toArray,List.eraseIdxIfInBounds_toArray,UY]
 ·rw[List.length_dropLast]
  lia
noncomputable def rCat:R2:=fun x y H Q=>∃l b xs zs,x=.ref l∧y=.ref b∧H l=some (.lst xs)∧H b=some (.lst zs)∧xs.length+zs.length≤sizeLine∧∀p,H p=none→Q (.ref p) (upd H p (.lst (xs++zs)))
theorem zf2:OpR X (binaryOp .Add) rCat:=by
 intro pins s σ H x y v u Q I rx ry h
 refine byc fun zG_=>?_
 obtain⟨l,b,xs,zs,rfl,rfl,hH,hB,hz,q⟩:=h
 refine zG_ ?_
 cases rx
 cases ry
 refine byc fun zG_=>?_
 obtain⟨z,its,n,r,hl,e⟩:=I.lstM hH
 obtain⟨z2,its2,n2,r2,hl2,e2⟩:=I.lstM hB
 refine zG_ ?_
 refine PySem.P.add_list e e2 ?_ (by rw[size_toArray,size_toArray];lia)
 have ea:its.toArray++its2.toArray=(its++its2).toArray:=by simp
 rw[ea]
 exact⟨.ref _,_,I.lnew (t':=s.toks) (r.append r2) (by rw[length_append];lia),rfl,q _ I.fresh⟩
noncomputable def rRep:R2:=fun x y H Q=>∃l k xs,x=.ref l∧y=.int k∧H l=some (.lst xs)∧-(2 ^ 63)≤k∧k<2 ^ 63∧xs.length*k.toNat≤sizeLine ∧
 ∀p,H p=none→Q (.ref p) (upd H p (.lst (List.replicate k.toNat xs).flatten))
theorem Lw{α:Type}(xs:List α)(k:Nat):(List.replicate k xs).flatten.length=k*xs.length:=by
 induction k with
 |zero=>simp
 |succ k ih=>rw[replicate_succ,flatten_cons,length_append,ih,Nat.succ_mul,Nat.add_comm]
theorem ze9:OpR X (binaryOp .Mult) rRep:=by
 intro pins s σ H x y v u Q I rx ry h
 refine byc fun zG_=>?_
 obtain⟨l,k,xs,rfl,rfl,hH,h1,h2,hz,q⟩:=h
 refine zG_ ?_
 cases rx
 refine byc fun zG_=>?_
 obtain⟨t,rfl⟩:=ry
 obtain⟨z,its,n,r,hl,e⟩:=I.lstM hH
 refine zG_ ?_
 have hlen:its.toArray.size*k.toNat≤sizeLine:=by rw[size_toArray,← hl];exact hz
 have hcap:¬ its.toArray.size*k.toNat > (2 ^ 63-1) / 8:=by
  have:(sizeLine:Nat)≤(2 ^ 63-1) / 8:=by decide
  lia
 have hfit:¬ (!Builtin.List.listFitsIndex k)=true:=by
  rw[fitsIndex_both h1 h2]
  exact Bool.false_ne_true
 have hlong:¬ Builtin.List.listTooLong (its.toArray.size*k.toNat)=true:=by
  rw[Mi hlen]
  exact Bool.false_ne_true
 have hnew:List.foldl (fun x1 x2=>x1++x2) #[] (List.replicate (if its.toArray.isEmpty=true then 0 else k.toNat) its.toArray)=(List.replicate k.toNat its).flatten.toArray:=by
  have f0:∀m:Nat,List.foldl (fun x1 x2=>x1++x2) #[] (List.replicate m its.toArray)=(List.replicate m its).flatten.toArray:=fun m=>by
   have:=foldl_rep its m []
   rw[nil_append] at this
   exact this
  rw[f0]
  cases its with
  |nil=>simp
  |cons a r'=>rw[if_neg (by simp)]
 refine wpAny_binaryOp_repeat_ref (T := "list") (U := "int") (by decide) ⟨_,e,rfl⟩ (fun s'=>typeIs_int s' k t) noFill_list_mul F.fills_int_mul F.slot_int_rmul repeat_list F.slot_int_index.lookup
  (call_meets F.slot_int_rmul (typeIs_int s k t) F.entry_int_rmul (F.args_int_rmul_2 _ _) (int___rmul___int_list k t l its.toArray n)
   ⟨e,rfl,⟨_,e,rfl⟩,call_meets F.slot_list_mul ⟨_,e,rfl⟩ F.entry_list_mul (F.args_list_mul_2 _ _) (AutoListH.list___mul___list_int_3 l its.toArray n k t hfit hcap hlong) ⟨e,?_⟩⟩)
 rw[hnew]
 exact⟨.ref _,_,I.lnew (t':=s.toks) (r.rep k.toNat) (by rw[Lw,Nat.mul_comm];exact hz),rfl,q _ I.fresh⟩
end
section
variable{prog:Program}{w:World}{A:Around}{E:Value→Shared→Prop}{s:Shared}
end
section
variable{X:Cx}
end
end L2
namespace Att
open PySem PySem.W PySem.Calls PyProof.Rows
theorem Yi{P:Params}{h:Heap}:∀(ns:List Int) (vs:List Value),WellAll P h vs (ns.map WData.int)→IntsAre vs ns:=by
 intro ns
 induction ns with
 |nil=>
  intro vs w
  rw[map_nil] at w
  cases w
  exact .nil
 |cons n ns ih=>
  intro vs w
  rw[map_cons] at w
  cases w with
  |cons a b=>
   cases a
   exact .cons _ _ (ih _ b)
theorem Qo{l:OpenLaw}{n:Nat}(hn:l.most=some n){P:Params}{h:Heap}{args:List WData}{vals:List Value}
  (hpre:l.row.toRowW.claim.pre args=true) (hwl:WellAll P h vals args) :
  ∃a vs ns,vals=[Value.ref a]∧args=[WData.list (ns.map WData.int)]∧h.get? a=some { cls:=.type "list", data:=.seq vs.toArray }∧IntsAre vs ns∧ns.length≤n:=by
 have hsh:WShape.hasAll [] args [.list .int]=true:=(pre_splitW hpre).1
 have hc:l.pre.holds [] { args:=args }=true:=(pre_splitW hpre).2
 refine byc fun zG_=>?_
 obtain⟨d,r,rfl,h1,h2⟩:=hasAllW_cons hsh
 refine zG_ ?_
 obtain rfl:=hasAllW_nil h2
 refine byc fun zG_=>?_
 obtain⟨xs,rfl,h3⟩:=hasW_list h1
 obtain⟨ns,rfl⟩:=items_int h3
 refine zG_ ?_
 have hlen:ns.length≤n:=by
  unfold OpenLaw.pre at hc
  have h4:(WTm.not (.lt (.lit (.int (n:Int))) (.len (.arg 0)))).holds [] { args:=[.list (ns.map .int)] }=true:=by
   have h4:=(holds_andW hc).1
   rw[hn] at h4
   exact h4
  have h5:=condW_of h4 (w_not (w_lt w_lit (w_len_list (w_arg rfl))))
  rw[length_map] at h5
  refine Nat.le_of_not_lt fun q=>?_
  have q':(n:Int)<((ns.length:Nat):Int):=by lia
  first
   | (rw[decide_eq_true q'] at h5;exact absurd h5 (by decide))
   | (simp at h5;lia)
 cases hwl with
 |cons w1 w2=>
  cases w2
  cases w1 with
  |list ho hall=>exact⟨_,_,ns,rfl,rfl,ho,Yi ns _ hall,hlen⟩
theorem Qr(l:OpenLaw)(args:List WData):l.row.toRowW.claim.post args (.bool true) args=true:=
 postW_of (r:=l.row.toRowW) (X:=(true==true))
  (show WShape.has [] (.bool true) .bool=true by first|rfl|decide|simp[WShape.has,WShape.arms,WShape.armsAll])
  (show(WTm.eq .res (.lit (.bool true))).value [] { args:=args,res:=some (.bool true),after:=args }=some (.bool (true==true)) from w_eq_bool (w_res rfl) w_lit) rfl
theorem attach_call{l:OpenLaw}{n:Nat}{q:Program}{loose:List Str}{XP:(Str→Option Value)→Heap→Prop}{YP:World→Heap→Prop}{d:DefRec}
  (hn:l.most=some n) (hdf:d.params.defaults=[])
  (call:∀(w:World) (s₀ s₁:Shared) (mg mb:Str→Option Value) (fa:Addr) (o:Obj) (pm cd doc:Value) (a:Addr) (vs:List Value) (ns:List Int),
   Ground q loose [] XP w s₀ mg mb s₁.heap→YP w s₁.heap →
   s₁.heap.get? fa=some o→o.data=.func (docDef d.name d.params d.body d.scope pm cd doc)→s₁.heap.CodeRec cd d.name→mg d.name=some (.ref fa) →
   s₁.heap.get? a=some { cls:=.type "list", data:=.seq vs.toArray }→IntsAre vs ns→ns.length≤n→s₁.gens = #[] →
   codeAny (model l.prog w) callerA (.call (.ref fa) ⟨[.ref a],[]⟩) (fun r s'=>r=.ok (.ret (.bool true))∧OldK s₁.heap s'.heap∧s'.os=s₁.os∧AllBare s'.gens) s₁) :
  WalkO q loose XP YP l.row.toRowW d [] (fun f vs=>PySem.call f vs):=by
 intro w s₀ s₁ mg mb G Y fa o pm cd doc dV kV ho hd hcd hD hmg hg args vals as hpre hlay hrd hwl hlo
 obtain rfl:dV=.none:=Dflts.none hD hdf
 obtain rfl:kV=.none:=Dflts.noKw hD
 refine byc fun zG_=>?_
 obtain⟨a,vs,ns,rfl,rfl,hobj,hints,hlen⟩:=Qo hn hpre hwl
 refine zG_ ?_
 refine enter_call (codeAny_mono (call w s₀ s₁ mg mb fa o pm cd doc a vs ns G Y ho (fd_plain hd) hcd hmg hobj hints hlen hg) fun r s' hq=>?_)
 refine byc fun zG_=>?_
 obtain⟨rfl,h2,h3,h4⟩:=hq
 refine zG_ ?_
 exact⟨.inl ⟨.bool true,.bool true,[],rfl,fun _=>rfl,.bool true,Qr l _,fun _=>⟨List.Pairwise.nil,fun _ hm=>(nomatch hm)⟩⟩,h2,h3,h4⟩
section
variable{prog:Program}{w:World}{A:Around}{E:Value→Shared→Prop}{s:Shared}{K:Frag}
end
end Att
namespace L2
open PySem PySem.Spec PyProof.Rows
theorem vals_ints:∀{vs:List Value} {ns:List Int},IntsAre vs ns→Vals (ns.map V.int) vs
 |_,_,.nil=>.nil
 |_,_,.cons n t h=>.cons ⟨t,rfl⟩ (vals_ints h)
noncomputable def Only(H:Hp):Prop:=∀b,H b=none∨∃o xs,H b=some (.frz o (.lst xs))
noncomputable def vn(s:Stmt)(j:Nat):Stmt:=match s with
 |.ClassDef _ _ _ body _ _ _ _ _ _ _=>body.getD j (.Pass ⟨0,0,0,0⟩)
 |_=>.Pass ⟨0,0,0,0⟩
noncomputable def zF(s:Stmt):Arguments:=match s with
 |.FunctionDef _ a _ _ _ _ _ _ _ _=>a
 |_=>{ posonlyargs:=[],args:=[],vararg:=none,kwonlyargs:=[],kw_defaults:=[],kwarg:=none,defaults:=[] }
noncomputable def zw(s:Stmt):List Stmt:=match s with
 |.FunctionDef _ _ b _ _ _ _ _ _ _=>b
 |_=>[]
noncomputable def zh(s:Stmt):Scope:=match s with
 |.FunctionDef _ _ _ _ _ _ sc _ _ _=>sc
 |_=>{ kind:=.function,names:=[],isGenerator:=false,isCoroutine:=false }
noncomputable abbrev CX0:CXT:=fun _ _ _ _ _ _=>False
noncomputable abbrev E0:XK:=fun _ _ _=>False
theorem j1{X:Cx}:jM CX0 X E0:=fun _ _ _ _ _ _ _ h=>h.elim
structure Fun(K:Frag)(x qual:Str)(st:Stmt)(f:Addr)(fd:FuncData):Prop where
 ex:∃(oc:Value) (od:Option Addr) (kV doc pm:Value) (an:Option Addr) (cdv ct:Value) (osl:Array (Option Value)),
  fd=fnOf x qual (zF st) (zw st) (zh st) .none kV doc pm an cdv ct∧K.lookup f=some ⟨oc,od,.func fd,osl⟩∧codeIn K cdv qual=true
 kp:keepIn K (.ref f)=true
section
variable{P:Program}{w:World}{K:Frag}{mg:Str→Option Value}{base:Heap}
theorem Fun.ok{x qual:Str}{st:Stmt}{f:Addr}{fd:FuncData}{N ps:List Str}{k:Nat}{sp:Sp}(F:Fun K x qual st f fd)(S:zD N ps (zh st))(len:∀vs H Q E,sp vs H Q E→vs.length=ps.length)
  (hbody:∀(cdv:Value) (A:Around) (outer:List Env) (s:Shared) (H:Hp) (vs:List V) (Q:VK) (E:XK),Room k (A.deeper (envOfC qual (zh st) s.heap.objs.size f cdv))→sp vs H Q E →
   ∃t,PSs (jo CX0 P w K mg base N qual (zh st) f cdv A outer s H E).nox (zw st) t∧t { nx:=fun _ H'=>Q .non H',rt:=Q } (start N vs) H):FnOk P w K mg base CX0 (k+1) f fd ps sp:=by
 refine byc fun zG_=>?_
 obtain⟨oc,od,kV,doc,pm,an,cdv,ct,osl,rfl,lk,hcd⟩:=F.ex
 refine zG_ ?_
 refine zb0 lk hcd S len fun A outer s H vs Q E hr hsp=>?_
 obtain⟨t,h,q⟩:=hbody cdv A outer s H vs Q E hr hsp
 exact⟨t,h.nox,q⟩
theorem Fun.binds{x qual:Str}{st:Stmt}{f:Addr}{fd:FuncData}{ps:List Str}(F:Fun K x qual st f fd)
  (h:∀(kV doc pm:Value) (an:Option Addr) (cdv ct:Value) (us:List Value),us.length=ps.length→bindArgs (fnOf x qual (zF st) (zw st) (zh st) .none kV doc pm an cdv ct) ⟨us,[]⟩=pure (ps.zip us)):Binds K fd ps []:=by
 refine byc fun zG_=>?_
 obtain⟨oc,od,kV,doc,pm,an,cdv,ct,osl,rfl,lk,hcd⟩:=F.ex
 refine zG_ ?_
 exact .all (h kV doc pm an cdv ct)
theorem ym{x qual:Str}{st:Stmt}{f:Addr}{oc:Value}{od an:Option Addr}{osl:Array (Option Value)}{kV doc pm cdv ct:Value}(l:K.lookup f=some ⟨oc,od,.func (fnOf x qual (zF st) (zw st) (zh st) .none kV doc pm an cdv ct),osl⟩)
  (c:codeIn K cdv qual=true) (k:keepIn K (.ref f)=true):Fun K x qual st f (fnOf x qual (zF st) (zw st) (zh st) .none kV doc pm an cdv ct):=⟨⟨oc,od,kV,doc,pm,an,cdv,ct,osl,rfl,l,c⟩,k⟩
end
theorem wQ{n:Nat}(h:n≤1000):n<sizeLine:=Nat.lt_of_le_of_lt h (by decide)
section
variable{X:Cx}
theorem pv(i:Nat){x:Str}{pos:Pos}(hN:X.N[i]?=some x:=by rfl)(hv:Vis X.env.scope x:=by first|exact Or.inl rfl|exact Or.inr (Or.inl rfl) | exact Or.inr (Or.inr rfl))(hd:(x==("__debug__" : Str))=false:=by decide)
  (hcd:(x==("__classdict__" : Str))=false:=by decide):PE X (.Name x pos) (yX i):=zd6 hN hv hd hcd
end
noncomputable def Same(H H':Hp):Prop:=∀b o,H b=some o→H' b=some o
theorem Same.refl(H:Hp):Same H H:=fun _ _ h=>h
theorem Same.trans{H H1 H2:Hp}(a:Same H H1)(b:Same H1 H2):Same H H2:=fun c o h=>b c o (a c o h)
theorem Same.seq{K:Frag}{H H':Hp}{a:Addr}{xs:List V}(e:Same H H')(h:SqL K H a xs):SqL K H' a xs:=by
 rcases h with (h|⟨o,h⟩) | h
 ·exact .inl (.inl (e _ _ h))
 ·exact .inl (.inr ⟨o,e _ _ h⟩)
 ·exact .inr h
end L2
namespace FD
open PySem PySem.Spec PyProof.Rows L2
noncomputable abbrev St:=L2.St
inductive D where
 | non|bl (b:Bool) | int (i:Int) | str (x:Str) | lst (xs:List D) | tup (xs:List D) | scr (ns:List Int) | raw (v:V) | exc (c:Str) | dct (ks:List Key) (ds:List D)
inductive Rs (α:Type) where
 | ok (a:α) | ex (c:Str) | no
noncomputable def Rs.bind{α β:Type}(r:Rs α)(k:α→Rs β):Rs β:=match r with
 |.ok a=>k a
 |.ex c=>.ex c
 |.no=>.no
@[simp] theorem Rs.bind_ok{α β:Type}(a:α)(k:α→Rs β):(Rs.ok a).bind k=k a:=rfl
noncomputable def excIs(K:Frag)(a:Addr)(c:Str):Heap→Prop:=fun h=>∃oe cls vs,h.get? a=some oe∧oe.cls=cls∧oe.dict=none∧oe.data=.fields vs∧nsIn K mainGlobals c=some (some cls)
section
variable(K:Frag)
mutual
noncomputable def Rep(F:Hp):D→V→Prop
 |.non,v=>v=.non
 |.bl b,v=>v=.bl b
 |.int i,v=>v=.int i
 |.str x,v=>v=.str x
 |.lst ds,v=>∃a vs,v=.ref a∧F a=some (.lst vs)∧Reps F ds vs
 |.scr ns,v=>∃a,v=.ref a∧SqL K F a (ns.map V.int)
 |.tup ds,v=>∃a vs,v=.ref a∧SqT K F a vs∧Reps F ds vs
 |.raw u,v=>v=u
 |.exc c,v=>∃a,v=.ref a∧F a=some (.ext (excIs K a c))
 |.dct ks ds,v=>∃a kvs o,v=.ref a∧F a=some (.frz o (.dK kvs))∧kvs.map (·.1)=ks∧Reps F ds (kvs.map (·.2))
noncomputable def Reps(F:Hp):List D→List V→Prop
 |[],vs=>vs=[]
 |d::ds,vs=>∃v r,vs=v::r∧Rep F d v∧Reps F ds r
end
end
theorem Same.refl(H:Hp):Same H H:=fun _ _ h=>h
theorem Same.seqT{K:Frag}{H H':Hp}{a:Addr}{xs:List V}(e:Same H H')(h:SqT K H a xs):SqT K H' a xs:=by
 rcases h with (h|⟨o,h⟩) | h
 ·exact .inl (.inl (e _ _ h))
 ·exact .inl (.inr ⟨o,e _ _ h⟩)
 ·exact .inr h
section
variable{K:Frag}{F F':Hp}
mutual
theorem Rep.mono(h:Same F F'):∀{d:D} {v:V},Rep K F d v→Rep K F' d v
 |.non,_,r=>by simpa only[Rep] using r
 |.bl _,_,r=>by simpa only[Rep] using r
 |.int _,_,r=>by simpa only[Rep] using r
 |.str _,_,r=>by simpa only[Rep] using r
 |.raw _,_,r=>by simpa only[Rep] using r
 |.exc c,v,r=>by
  simp only[Rep] at r ⊢
  obtain⟨a,e,q⟩:=r
  exact⟨a,e,h _ _ q⟩
 |.dct ks ds,v,r=>by
  simp only[Rep] at r ⊢
  refine byc fun zG_=>?_
  obtain⟨a,kvs,o,e,q,k,t⟩:=r
  refine zG_ ?_
  exact⟨a,kvs,o,e,h _ _ q,k,Reps.mono h t⟩
 |.lst ds,v,r=>by
  simp only[Rep] at r ⊢
  refine byc fun zG_=>?_
  obtain⟨a,vs,e,q,t⟩:=r
  refine zG_ ?_
  exact⟨a,vs,e,h _ _ q,Reps.mono h t⟩
 |.scr ns,v,r=>by
  simp only[Rep] at r ⊢
  obtain⟨a,e,q⟩:=r
  exact⟨a,e,h.seq q⟩
 |.tup ds,v,r=>by
  simp only[Rep] at r ⊢
  refine byc fun zG_=>?_
  obtain⟨a,vs,e,q,t⟩:=r
  refine zG_ ?_
  exact⟨a,vs,e,Same.seqT h q,Reps.mono h t⟩
theorem Reps.mono(h:Same F F'):∀{ds:List D} {vs:List V},Reps K F ds vs→Reps K F' ds vs
 |[],_,r=>by simpa only[Reps] using r
 |d::ds,vs,r=>by
  simp only[Reps] at r ⊢
  refine byc fun zG_=>?_
  obtain⟨v,r',e,q,t⟩:=r
  refine zG_ ?_
  exact⟨v,r',e,Rep.mono h q,Reps.mono h t⟩
end
theorem Reps.length:∀{ds:List D} {vs:List V},Reps K F ds vs→ds.length=vs.length
 |[],_,r=>by simp only[Reps] at r;subst r;rfl
 |d::ds,_,r=>by
  simp only[Reps] at r
  refine byc fun zG_=>?_
  obtain⟨v,r',rfl,_,t⟩:=r
  refine zG_ ?_
  simp[Reps.length t]
theorem Reps.get:∀{ds:List D} {vs:List V} {i:Nat} {d:D},Reps K F ds vs→ds[i]?=some d→∃v,vs[i]?=some v∧Rep K F d v
 |[],_,_,_,_,e=>by simp at e
 |d::ds,_,0,_,r,e=>by
  simp only[Reps] at r
  refine byc fun zG_=>?_
  obtain⟨v,r',rfl,q,t⟩:=r
  refine zG_ ?_
  simp at e;subst e
  exact⟨v,rfl,q⟩
 |d::ds,_,i+1,_,r,e=>by
  simp only[Reps] at r
  refine byc fun zG_=>?_
  obtain⟨v,r',rfl,q,t⟩:=r
  obtain⟨w,h1,h2⟩:=Reps.get (i:=i) t (by simpa using e)
  refine zG_ ?_
  exact⟨w,by simpa using h1,h2⟩
theorem Reps.nil:Reps K F [] []:=by simp only[Reps]
theorem Reps.cons{d:D}{v:V}{ds:List D}{vs:List V}(h:Rep K F d v)(t:Reps K F ds vs):Reps K F (d::ds) (v::vs):=by
 simp only[Reps];exact⟨v,vs,rfl,h,t⟩
theorem Reps.append:∀{ds es:List D} {vs ws:List V},Reps K F ds vs→Reps K F es ws→Reps K F (ds++es) (vs++ws)
 |[],_,_,_,r,t=>by simp only[Reps] at r;subst r;exact t
 |d::ds,es,_,ws,r,t=>by
  simp only[Reps] at r
  refine byc fun zG_=>?_
  obtain⟨v,r',rfl,q,u⟩:=r
  refine zG_ ?_
  exact Reps.cons q (Reps.append u t)
theorem Reps.take:∀{ds:List D} {vs:List V} (n:Nat),Reps K F ds vs→Reps K F (ds.take n) (vs.take n)
 |_,_,0,_=>by simp only[List.take_zero];exact Reps.nil
 |[],_,n+1,r=>by simp only[Reps] at r;subst r;simp only[List.take_nil];exact Reps.nil
 |d::ds,_,n+1,r=>by
  simp only[Reps] at r
  refine byc fun zG_=>?_
  obtain⟨v,r',rfl,q,u⟩:=r
  refine zG_ ?_
  exact Reps.cons q (Reps.take n u)
theorem Reps.drop:∀{ds:List D} {vs:List V} (n:Nat),Reps K F ds vs→Reps K F (ds.drop n) (vs.drop n)
 |_,_,0,r=>r
 |[],_,n+1,r=>by simp only[Reps] at r;subst r;simp only[List.drop_nil];exact Reps.nil
 |d::ds,_,n+1,r=>by
  simp only[Reps] at r
  refine byc fun zG_=>?_
  obtain⟨v,r',rfl,q,u⟩:=r
  refine zG_ ?_
  exact Reps.drop n u
theorem Reps.set{d:D}{v:V}(h:Rep K F d v):∀{ds:List D} {vs:List V} (i:Nat),Reps K F ds vs→Reps K F (ds.set i d) (vs.set i v)
 |[],_,_,r=>by simp only[Reps] at r;subst r;exact Reps.nil
 |e::ds,_,0,r=>by
  simp only[Reps] at r
  refine byc fun zG_=>?_
  obtain⟨w,r',rfl,q,u⟩:=r
  refine zG_ ?_
  exact Reps.cons h u
 |e::ds,_,i+1,r=>by
  simp only[Reps] at r
  refine byc fun zG_=>?_
  obtain⟨w,r',rfl,q,u⟩:=r
  refine zG_ ?_
  exact Reps.cons q (Reps.set h i u)
theorem Reps.one{d:D}{vs:List V}(h:Reps K F [d] vs):∃v,vs=[v]∧Rep K F d v:=by
 simp only[Reps] at h
 refine byc fun zG_=>?_
 obtain⟨v,r,e,q,e2⟩:=h
 refine zG_ ?_
 subst e2;exact⟨v,e,q⟩
theorem Reps.two{d e:D}{vs:List V}(h:Reps K F [d,e] vs):∃v w,vs=[v,w]∧Rep K F d v∧Rep K F e w:=by
 simp only[Reps] at h
 refine byc fun zG_=>?_
 obtain⟨v,r,e1,q,w,r2,e2,q2,e3⟩:=h
 refine zG_ ?_
 subst e3;subst e2;exact⟨v,w,e1,q,q2⟩
theorem Reps.rep{ds:List D}{vs:List V}(h:Reps K F ds vs):∀k:Nat,Reps K F (List.replicate k ds).flatten (List.replicate k vs).flatten:=by
 intro l_
 induction l_ with
 |zero=>
  exact Reps.nil
 |succ k ih_=>
  rw[replicate_succ,replicate_succ,flatten_cons,flatten_cons]
  exact Reps.append h (ih_)
theorem Reps.ints:∀(ns:List Int),Reps K F (ns.map D.int) (ns.map V.int):=by
 intro l_
 induction l_ with
 |nil=>
  exact Reps.nil
 |cons n r ih_=>
  exact Reps.cons (by simp only[Rep]) (ih_)
end
class Tabs where
 rows:List (Addr×Nat×Nat×Str)
 own:Str→Str→Bool
 own2:Str→Str→Bool
noncomputable def Xo(c:Addr)(q:Str):Heap→Prop:=fun h=>h.CodeRec (.ref c) q
noncomputable def TOk(F H:Hp)(r:Addr×Nat×Nat×Str):Prop:=F r.1=none∧(H r.1=some (.tbl #[])∨∃c,H r.1=some (.tbl #[rawInt r.2.1,rawInt r.2.2.1,.ref c])∧H c=some (.ext (Xo c r.2.2.2)))
variable[Tabs]
noncomputable def OwnOk(H:Hp):Prop:=∀d a,H d=some (.own a)→∃C dx vs,H a=some (.ins C dx vs)
noncomputable def TbT(F H:Hp):Prop:=(∀r∈Tabs.rows,TOk F H r)∧OwnOk H
omit [Tabs] in
theorem TOk.step{F H F' H':Hp}{r:Addr×Nat×Nat×Str}(t:TOk F H r)(nw:∀a o,F' a=some o→F a=some o∨H a=none)(k:∀a o,H a=some o→(∀vs,o≠.lst vs)→H' a=some o):TOk F' H' r:=by
 have hn:∀ps,H r.1=some (.tbl ps)→F' r.1=none:=fun ps e=>by
  cases q:F' r.1 with
  |none=>rfl
  |some o=>
   rcases nw _ _ q with z|z
   ·rw[t.1] at z;cases z
   ·rw[e] at z;cases z
 rcases t.2 with e|⟨c,e,e2⟩
 ·exact⟨hn _ e,.inl (k _ _ e fun _ z=>nomatch z)⟩
 ·exact⟨hn _ e,.inr ⟨c,k _ _ e (fun _ z=>nomatch z),k _ _ e2 fun _ z=>nomatch z⟩⟩
theorem TbT.step{F H F' H':Hp}(t:TbT F H)(nw:∀a o,F' a=some o→F a=some o∨H a=none)(k:∀a o,H a=some o→(∀vs,o≠.lst vs)→H' a=some o)(no:∀d a,H' d=some (.own a)→H d=some (.own a)):TbT F' H':=⟨fun r hr=>(t.1 r hr).step nw k,fun d a e=>by
 refine byc fun zG_=>?_
 obtain⟨C,dx,vs,h⟩:=t.2 d a (no d a e)
 refine zG_ ?_
 exact⟨C,dx,vs,k _ _ h fun _ z=>nomatch z⟩⟩
theorem TbT.freeze{F H:Hp}{a:Addr}{vs:List V}{o:HO}(t:TbT F H)(e:H a=some (.lst vs)):TbT (upd F a o) H:=⟨fun r hr=>by
 obtain⟨t1,t2⟩:=t.1 r hr
 have:r.1≠a:=fun z=>by
  rw[z,e] at t2
  rcases t2 with q|⟨c,q,_⟩ <;> cases q
 exact⟨by rw[zm this];exact t1,t2⟩,t.2⟩
noncomputable def Kp:HO→Option HO→Prop
 |.tbl _,r=>∃ps,r=some (.tbl ps)
 |o,r=>r=some o
noncomputable def Hh(H H':Hp):Prop:=∀b o,H b=some o→Kp o (H' b)
omit [Tabs] in
theorem Kp.of{o:HO}{r:Option HO}(h:r=some o):Kp o r:=by cases o <;> first|exact h|exact⟨_,h⟩
omit [Tabs] in
theorem Kp.some{o:HO}{r:Option HO}(h:Kp o r):r≠none:=by
 cases o <;> first | (obtain⟨_,h⟩:=h;rw[h];simp) | (have h:r=_:=h;rw[h];simp)
omit [Tabs] in
theorem Hh.of{H H':Hp}(h:Same H H'):Hh H H':=fun b o e=>.of (h b o e)
omit [Tabs] in
theorem Hh.refl(H:Hp):Hh H H:=.of (Same.refl H)
omit [Tabs] in
theorem Hh.trans{H H1 H2:Hp}(a:Hh H H1)(b:Hh H1 H2):Hh H H2:=fun c o e=>by
 have k:=a c o e
 cases o <;> first|exact b c _ k | (obtain⟨ps,q⟩:=k;show ∃ps,H2 c=some (.tbl ps);exact b c _ q)
omit [Tabs] in
theorem xq{F H:Hp}(h:Hh F H){a:Addr}(e:H a=none):F a=none:=by
 cases q:F a with
 |none=>rfl
 |some o=>exact absurd e (h a o q).some
structure Ext(F H F' H':Hp):Prop where
 ff:Same F F'
 hh:Hh H H'
 fh:Same F' H'
 nw:∀a o,F' a=some o→F a=some o∨H a=none
 tt:TbT F H→TbT F' H'
theorem Ext.refl{F H:Hp}(h:Same F H):Ext F H F H:=⟨Same.refl F,Hh.refl H,h,fun _ _ e=>.inl e,id⟩
theorem Ext.trans{F H F1 H1 F2 H2:Hp}(a:Ext F H F1 H1)(b:Ext F1 H1 F2 H2):Ext F H F2 H2:=
 ⟨a.ff.trans b.ff,a.hh.trans b.hh,b.fh,fun c o e=>by
  rcases b.nw c o e with q|q
  ·exact a.nw c o q
  ·exact .inr (xq a.hh q),fun t=>b.tt (a.tt t)⟩
omit [Tabs] in
theorem zI{F H:Hp}(h:Same F H){a:Addr}(e:H a=none):F a=none:=by
 cases q:F a with
 |none=>rfl
 |some o=>rw[h a o q] at e;cases e
omit [Tabs] in
theorem yt{H:Hp}{p:Addr}{o:HO}(h:H p=none):Same H (upd H p o):=fun b u q=>by rw[zm (zA q h)];exact q
omit [Tabs] in
theorem Qp{F H:Hp}{p:Addr}{o:HO}(h:Same F H)(hp:H p=none):Same (upd F p o) (upd H p o):=fun b u q=>by
 by_cases hb:b=p
 ·subst hb;rw[zo] at q ⊢;exact q
 ·rw[zm hb] at q ⊢;exact h b u q
theorem Ext.same{F H F' H':Hp}(ff:Same F F')(hh:Same H H')(fh:Same F' H')(nw:∀a o,F' a=some o→F a=some o∨H a=none)(no:∀d a,H' d=some (.own a)→H d=some (.own a)):Ext F H F' H':=⟨ff,.of hh,fh,nw,fun t=>t.step nw (fun a o e _=>hh a o e) no⟩
omit [Tabs] in
theorem wq{H:Hp}{p:Addr}{o:HO}(ho:∀a,o≠.own a):∀d a,upd H p o d=some (.own a)→H d=some (.own a):=fun d a e=>by
 by_cases h:d=p
 ·subst h;rw[zo] at e;cases e;exact absurd rfl (ho a)
 ·rw[zm h] at e;exact e
theorem Ext.new{F H:Hp}{p:Addr}{o:HO}(h:Same F H)(hp:H p=none)(ho:∀a,o≠.own a:=by intro _ h;cases h):Ext F H (upd F p o) (upd H p o):=
 .same (yt (zI h hp)) (yt hp) (Qp h hp) (fun a u e=>by
  by_cases hb:a=p
  ·subst hb;exact .inr hp
  ·rw[zm hb] at e;exact .inl e) (wq ho)
theorem Ext.open{F H:Hp}{p:Addr}{o:HO}(h:Same F H)(hp:H p=none)(ho:∀a,o≠.own a:=by intro _ h;cases h):Ext F H F (upd H p o):=
 .same (Same.refl F) (yt hp) (h.trans (yt hp)) (fun a u e=>.inl e) (wq ho)
inductive Sl where
 | val (d:D)
 | own (ds:List D)
 | obj (n:Nat) (c:Str) (fs:List (Str×D))
 | obr (c:Str) (fs:List (Str×D))
noncomputable abbrev DS:=List (Option Sl)
noncomputable def OwnF(K:Frag)(F H:Hp)(d:D)(v:V):Prop:=∃ds l ws,d=.lst ds∧v=.ref l∧H l=some (.lst ws)∧F l=none∧Reps K F ds ws
noncomputable def Inn(K:Frag)(F H:Hp):List (List D)→List Addr→Prop
 |[],[]=>True
 |ds::r,a::s=>(∃ws,H a=some (.lst ws)∧F a=none∧Reps K F ds ws)∧Inn K F H r s
 |_,_=>False
noncomputable def Own2(K:Frag)(F H:Hp)(d:D)(v:V):Prop:=∃es l as,d=.lst (es.map D.lst)∧v=.ref l∧H l=some (.lst (as.map V.ref))∧F l=none∧Inn K F H es as
noncomputable def Fld1(K:Frag)(F H:Hp)(c f:Str)(d:D)(v:V):Prop:=if Tabs.own c f=true then OwnF K F H d v else if Tabs.own2 c f=true then Own2 K F H d v else Rep K F d v
noncomputable def Flds(K:Frag)(F H:Hp)(c:Str):List (Str×D)→List (Str×V)→Prop
 |[],[]=>True
 | (f,d)::r,(g,v)::s=>f=g∧Fld1 K F H c f d v∧Flds K F H c r s
 |_,_=>False
noncomputable def YH:List V→List Addr
 |[]=>[]
 |.ref a::r=>a::YH r
 |_::r=>YH r
theorem v5:∀as:List Addr,YH (as.map V.ref)=as:=by
 intro l_
 induction l_ with
 |nil=>
  exact rfl
 |cons a r ih_=>
  show a::YH (r.map V.ref)=_;rw[ih_]
noncomputable def zi4(H:Hp)(l:Addr):List Addr:=match H l with
 | some (.lst ws)=>YH ws
 |_=>[]
theorem vt{H:Hp}{l:Addr}{ws:List V}(h:H l=some (.lst ws)):zi4 H l=YH ws:=by unfold zi4;rw[h]
noncomputable def yr(H:Hp)(c f:Str)(v:V):List Addr:=match v with
 |.ref l=>if Tabs.own c f=true then [l] else if Tabs.own2 c f=true then l::zi4 H l else []
 |_=>[]
noncomputable def zP(H:Hp)(c:Str):List (Str×V)→List Addr
 |[]=>[]
 | (f,v)::r=>yr H c f v++zP H c r
noncomputable def Lof(H:Hp)(c:Str)(a:Addr):List Addr:=match H a with
 | some (.ins _ _ vs)=>zP H c vs
 |_=>[]
theorem Lof.ins{H:Hp}{c:Str}{a C dx:Addr}{vs:List (Str×V)}(h:H a=some (.ins C dx vs)):Lof H c a=zP H c vs:=by unfold Lof;rw[h]
theorem Inn.own{K:Frag}{F H:Hp}{l:Addr}:∀{es:List (List D)} {as:List Addr},Inn K F H es as→l∈as→F l=none∧∃ws,H l=some (.lst ws)
 |[],[],_,h=>by cases h
 |_::_,_::_,q,h=>by
  refine byc fun zG_=>?_
  obtain⟨⟨ws,e1,e2,_⟩,q⟩:=q
  refine zG_ ?_
  rcases mem_cons.mp h with rfl|h
  ·exact⟨e2,ws,e1⟩
  ·exact Inn.own q h
 |[],_::_,q,_=>q.elim
 |_::_,[],q,_=>q.elim
theorem Inn.keep{K:Frag}{F H F' H':Hp}(hf:Same F F'):∀{es:List (List D)} {as:List Addr},Inn K F H es as→(∀l ws,l∈as→H l=some (.lst ws)→F l=none→H' l=some (.lst ws)∧F' l=none)→Inn K F' H' es as
 |[],[],_,_=>trivial
 |_::_,a::_,q,k=>by
  refine byc fun zG_=>?_
  obtain⟨⟨ws,e1,e2,e3⟩,q⟩:=q
  obtain⟨k1,k2⟩:=k a ws mem_cons_self e1 e2
  refine zG_ ?_
  exact⟨⟨ws,k1,k2,e3.mono hf⟩,Inn.keep hf q fun l ws hl=>k l ws (mem_cons_of_mem _ hl)⟩
 |[],_::_,q,_=>q.elim
 |_::_,[],q,_=>q.elim
theorem Fld1.own{K:Frag}{F H:Hp}{c f:Str}{d:D}{v:V}{l:Addr}(q:Fld1 K F H c f d v)(h:l∈yr H c f v):F l=none∧∃ws,H l=some (.lst ws):=by
 unfold Fld1 at q
 unfold yr at h
 cases v with
 |ref a=>
  simp only at h
  by_cases z:Tabs.own c f=true
  ·rw[if_pos z] at h q
   refine byc fun zG_=>?_
   obtain⟨ds,l',ws,e1,e2,e3,e4,e5⟩:=q
   refine zG_ ?_
   cases e2
   have:l=a:=by simpa using h
   subst this;exact⟨e4,ws,e3⟩
  ·rw[if_neg z] at h q
   by_cases z2:Tabs.own2 c f=true
   ·rw[if_pos z2] at h q
    refine byc fun zG_=>?_
    obtain⟨es,l',as,e1,e2,e3,e4,e5⟩:=q
    refine zG_ ?_
    cases e2
    rw[vt e3,v5] at h
    rcases mem_cons.mp h with rfl|h
    ·exact⟨e4,_,e3⟩
    ·exact e5.own h
   ·rw[if_neg z2] at h;cases h
 |_=>cases h
theorem Fld1.keep{K:Frag}{F H F' H':Hp}{c f:Str}{d:D}{v:V}(hf:Same F F')(q:Fld1 K F H c f d v)(k:∀l ws,l∈yr H c f v→H l=some (.lst ws)→F l=none→H' l=some (.lst ws)∧F' l=none):Fld1 K F' H' c f d v:=by
 unfold Fld1 at q ⊢
 by_cases z:Tabs.own c f=true
 ·rw[if_pos z] at q ⊢
  refine byc fun zG_=>?_
  obtain⟨ds,l,ws,e1,rfl,e3,e4,e5⟩:=q
  obtain⟨k1,k2⟩:=k l ws (by unfold yr;simp only;rw[if_pos z];exact mem_cons_self) e3 e4
  refine zG_ ?_
  exact⟨ds,l,ws,e1,rfl,k1,k2,e5.mono hf⟩
 ·rw[if_neg z] at q ⊢
  by_cases z2:Tabs.own2 c f=true
  ·rw[if_pos z2] at q ⊢
   refine byc fun zG_=>?_
   obtain⟨es,l,as,e1,rfl,e3,e4,e5⟩:=q
   refine zG_ ?_
   have eo:yr H c f (.ref l)=l::as:=by unfold yr;simp only;rw[if_neg z,if_pos z2,vt e3,v5]
   obtain⟨k1,k2⟩:=k l _ (by rw[eo];exact mem_cons_self) e3 e4
   exact⟨es,l,as,e1,rfl,k1,k2,e5.keep hf fun l ws hl=>k l ws (by rw[eo];exact mem_cons_of_mem _ hl)⟩
  ·rw[if_neg z2] at q ⊢;exact q.mono hf
theorem Fld1.same{K:Frag}{F H H':Hp}{c f:Str}{d:D}{v:V}(q:Fld1 K F H c f d v)(k:∀l ws,l∈yr H c f v→H l=some (.lst ws)→H' l=some (.lst ws)):yr H' c f v=yr H c f v:=by
 unfold Fld1 at q
 cases v with
 |ref a=>
  unfold yr at k ⊢
  simp only at k ⊢
  by_cases z:Tabs.own c f=true
  ·rw[if_pos z,if_pos z]
  ·rw[if_neg z] at q k;rw[if_neg z,if_neg z]
   by_cases z2:Tabs.own2 c f=true
   ·rw[if_pos z2] at q k;rw[if_pos z2,if_pos z2]
    refine byc fun zG_=>?_
    obtain⟨es,l',as,e1,e2,e3,e4,e5⟩:=q
    refine zG_ ?_
    cases e2
    rw[vt e3,vt (k a _ mem_cons_self e3)]
   ·rw[if_neg z2,if_neg z2]
 |_=>rfl
theorem Flds.own{K:Frag}{F H:Hp}{c:Str}{l:Addr}:∀{fs:List (Str×D)} {vs:List (Str×V)},Flds K F H c fs vs→l∈zP H c vs→F l=none∧∃ws,H l=some (.lst ws)
 |[],[],_,h=>by cases h
 | (f,d)::r,(g,v)::s,q,h=>by
  obtain⟨rfl,q2,q3⟩:=q
  rcases mem_append.mp (show l∈yr H c f v++zP H c s from h) with h|h
  ·exact q2.own h
  ·exact Flds.own q3 h
 |[],_::_,q,_=>q.elim
 |_::_,[],q,_=>q.elim
theorem Flds.keep{K:Frag}{F H F' H':Hp}{c:Str}(hf:Same F F'):∀{fs:List (Str×D)} {vs:List (Str×V)},Flds K F H c fs vs→(∀l ws,l∈zP H c vs→H l=some (.lst ws)→F l=none→H' l=some (.lst ws)∧F' l=none)→Flds K F' H' c fs vs
 |[],[],_,_=>trivial
 | (f,d)::r,(g,v)::s,q,k=>by
  obtain⟨rfl,q2,q3⟩:=q
  exact⟨rfl,q2.keep hf fun l ws hl=>k l ws (mem_append.mpr (.inl hl)),Flds.keep hf q3 fun l ws hl=>k l ws (mem_append.mpr (.inr hl))⟩
 |[],_::_,q,_=>q.elim
 |_::_,[],q,_=>q.elim
theorem Flds.same{K:Frag}{F H H':Hp}{c:Str}:∀{fs:List (Str×D)} {vs:List (Str×V)},Flds K F H c fs vs→(∀l ws,l∈zP H c vs→H l=some (.lst ws)→H' l=some (.lst ws))→zP H' c vs=zP H c vs
 |[],[],_,_=>rfl
 | (f,d)::r,(g,v)::s,q,k=>by
  obtain⟨rfl,q2,q3⟩:=q
  show yr H' c f v++zP H' c s=yr H c f v++zP H c s
  rw[q2.same fun l ws hl=>k l ws (mem_append.mpr (.inl hl)),Flds.same q3 fun l ws hl=>k l ws (mem_append.mpr (.inr hl))]
 |[],_::_,q,_=>q.elim
 |_::_,[],q,_=>q.elim
theorem VG{B H:Hp}{c:Str}(hh:∀b ws,B b=some (.lst ws)→H b=some (.lst ws)):∀{vs:List (Str×V)},(∀l∈zP B c vs,∃ws,B l=some (.lst ws))→zP H c vs=zP B c vs
 |[],_=>rfl
 | (f,v)::s,k=>by
  show yr H c f v++zP H c s=yr B c f v++zP B c s
  rw[VG hh fun l hl=>k l (mem_append.mpr (.inr hl))]
  congr 1
  have k1:∀l∈yr B c f v,∃ws,B l=some (.lst ws):=fun l hl=>k l (mem_append.mpr (.inl hl))
  cases v with
  |ref a=>
   unfold yr at k1 ⊢
   simp only at k1 ⊢
   by_cases z:Tabs.own c f=true
   ·rw[if_pos z,if_pos z]
   ·rw[if_neg z] at k1;rw[if_neg z,if_neg z]
    by_cases z2:Tabs.own2 c f=true
    ·rw[if_pos z2] at k1;rw[if_pos z2,if_pos z2]
     obtain⟨ws,e⟩:=k1 a mem_cons_self
     rw[vt e,vt (hh _ _ e)]
    ·rw[if_neg z2,if_neg z2]
  |_=>rfl
noncomputable def Vh(K:Frag)(F H:Hp)(c:Str)(fs:List (Str×D))(a:Addr):Prop:=∃C dx vs,H a=some (.ins C dx vs)∧F a=none∧nsIn K mainGlobals c=some (some (.ref C))∧Flds K F H c fs vs∧H dx=some (.own a)∧(zP H c vs).Nodup
noncomputable def ObS(s:Option (Option Sl))(c:Str):Prop:=(∃n fs,s=some (some (.obj n c fs)))∨∃fs,s=some (some (.obr c fs))
structure ObsOk(K:Frag)(F:Hp)(τ:DS)(σ:St)(H:Hp):Prop where
 at_:∀(i n:Nat) (c:Str) (fs:List (Str×D)),τ[i]?=some (some (.obj n c fs))→∃a,σ[i]?=some (some (.ref a))∧Vh K F H c fs a
 dis:∀(i j n:Nat) (c c':Str) (fs:List (Str×D)) (a:Addr),i≠j→τ[i]?=some (some (.obj n c fs))→ObS τ[j]? c'→σ[i]?=some (some (.ref a))→σ[j]?=some (some (.ref a))→False
 rd:∀(i:Nat) (c:Str) (fs:List (Str×D)),τ[i]?=some (some (.obr c fs))→∃a C dx vs,σ[i]?=some (some (.ref a))∧H a=some (.ins C dx vs)∧nsIn K mainGlobals c=some (some (.ref C))∧Flds K F H c fs vs
 ll:∀(i j n:Nat) (c c':Str) (fs:List (Str×D)) (a a' l:Addr),i≠j→τ[i]?=some (some (.obj n c fs))→ObS τ[j]? c'→σ[i]?=some (some (.ref a))→σ[j]?=some (some (.ref a'))→l∈Lof H c a→l∈Lof H c' a'→False
 lo:∀(i j:Nat) (c:Str) (ds:List D) (a l:Addr),ObS τ[i]? c→τ[j]?=some (some (.own ds))→σ[i]?=some (some (.ref a))→σ[j]?=some (some (.ref l))→l∈Lof H c a→False
noncomputable def UU:Option Sl→Bool
 | some (.obj _ _ _)=>true
 | some (.obr _ _)=>true
 |_=>false
noncomputable def noObj(τ:DS):Prop:=∀(i:Nat) s,τ[i]?=some s→UU s=false
omit [Tabs] in
theorem noObj.obs{τ:DS}(n:noObj τ){i:Nat}{c:Str}(h:ObS τ[i]? c):False:=by
 rcases h with ⟨m,fs,h⟩|⟨fs,h⟩
 ·have:=n i _ h;cases this
 ·have:=n i _ h;cases this
theorem ObsOk.none{K:Frag}{F H:Hp}{τ:DS}{σ:St}(n:noObj τ):ObsOk K F τ σ H:=
 ⟨fun i m c fs h=>(by have:=n i _ h;cases this),fun i j m c c' fs a _ h=>(by have:=n i _ h;cases this),fun i c fs h=>(by have:=n i _ h;cases this),fun i j m c c' fs a a' l _ h=>(by have:=n i _ h;cases this),fun i j c ds a l h=>(n.obs h).elim⟩
theorem ObsOk.get{K:Frag}{F H:Hp}{τ:DS}{σ:St}{i:Nat}{c:Str}(o:ObsOk K F τ σ H)(h:ObS τ[i]? c):∃a C dx vs fs,σ[i]?=some (some (.ref a))∧H a=some (.ins C dx vs)∧Flds K F H c fs vs:=by
 rcases h with ⟨m,fs,h⟩|⟨fs,h⟩
 ·refine byc fun zG_=>?_
  obtain⟨a,h1,C,dx,vs,h2,_,_,h5,_⟩:=o.at_ i m c fs h
  refine zG_ ?_
  exact⟨a,C,dx,vs,fs,h1,h2,h5⟩
 ·refine byc fun zG_=>?_
  obtain⟨a,C,dx,vs,h1,h2,_,h5⟩:=o.rd i c fs h
  refine zG_ ?_
  exact⟨a,C,dx,vs,fs,h1,h2,h5⟩
theorem ObsOk.keep{K:Frag}{F H F' H':Hp}{τ:DS}{σ:St}(o:ObsOk K F τ σ H)(hf:Same F F')(hi:∀a C dx vs,H a=some (.ins C dx vs)→H' a=some (.ins C dx vs))(hn:∀a C dx vs,H a=some (.ins C dx vs)→F a=Option.none→F' a=Option.none)(hd:∀d a,H d=some (.own a)→H' d=some (.own a))
  (hl:∀(i:Nat) (c:Str) (a l:Addr) (ws:List V),ObS τ[i]? c→σ[i]?=some (some (.ref a))→l∈Lof H c a→H l=some (.lst ws)→F l=Option.none→H' l=some (.lst ws)∧F' l=Option.none):ObsOk K F' τ σ H':=by
 have lof:∀{i:Nat} {c:Str} {a:Addr},ObS τ[i]? c→σ[i]?=some (some (.ref a))→Lof H' c a=Lof H c a:=fun {i c a} h e=>by
  refine byc fun zG_=>?_
  obtain⟨a',C,dx,vs,fs,h1,h2,h3⟩:=o.get h
  refine zG_ ?_
  rw[e] at h1;cases h1
  rw[Lof.ins h2,Lof.ins (hi _ _ _ _ h2)]
  exact h3.same fun l ws q e1=>(hl i c a l ws h e (by rw[Lof.ins h2];exact q) e1 (h3.own q).1).1
 refine⟨fun i m c fs h=>?_,o.dis,fun i c fs h=>?_,fun i j m c c' fs a a' l hij h1 h2 h3 h4 h5 h6=>?_,fun i j c ds a l h1 h2 h3 h4 h5=>?_⟩
 ·refine byc fun zG_=>?_
  obtain⟨a,h1,C,dx,vs,h2,h3,h4,h5,h6,h7⟩:=o.at_ i m c fs h
  refine zG_ ?_
  exact⟨a,h1,C,dx,vs,hi _ _ _ _ h2,hn _ _ _ _ h2 h3,h4,h5.keep hf fun l ws q=>hl i c a l ws (.inl ⟨m,fs,h⟩) h1 (by rw[Lof.ins h2];exact q),hd _ _ h6,by rw[h5.same fun l ws q e1=>(hl i c a l ws (.inl ⟨m,fs,h⟩) h1 (by rw[Lof.ins h2];exact q) e1 (h5.own q).1).1];exact h7⟩
 ·refine byc fun zG_=>?_
  obtain⟨a,C,dx,vs,h1,h2,h4,h5⟩:=o.rd i c fs h
  refine zG_ ?_
  exact⟨a,C,dx,vs,h1,hi _ _ _ _ h2,h4,h5.keep hf fun l ws q=>hl i c a l ws (.inr ⟨fs,h⟩) h1 (by rw[Lof.ins h2];exact q)⟩
 ·rw[lof (.inl ⟨m,fs,h1⟩) h3] at h5
  rw[lof h2 h4] at h6
  exact o.ll i j m c c' fs a a' l hij h1 h2 h3 h4 h5 h6
 ·rw[lof h1 h3] at h5
  exact o.lo i j c ds a l h1 h2 h3 h4 h5
theorem ObsOk.ext{K:Frag}{F H F' H':Hp}{τ:DS}{σ:St}(o:ObsOk K F τ σ H)(x:Ext F H F' H'):ObsOk K F' τ σ H':=by
 have nF:∀{a:Addr} {u:HO},H a=some u→F a=Option.none→F' a=Option.none:=fun {a u} h h3=>by
  cases q:F' a with
  |none=>rfl
  |some w=>
   rcases x.nw a w q with z|z
   ·rw[h3] at z;cases z
   ·rw[h] at z;cases z
 exact o.keep x.ff (fun a C dx vs h=>x.hh _ _ h) (fun a C dx vs h=>nF h) (fun d a h=>x.hh _ _ h) fun i c a l ws _ _ _ h h3=>⟨x.hh _ _ h,nF h h3⟩
theorem ObsOk.updL{K:Frag}{F H:Hp}{τ:DS}{σ:St}{p:Addr}{u:HO}(o:ObsOk K F τ σ H)(hl:H p=.none∨∃vs,H p=some (.lst vs))(hp:∀(i:Nat) (c:Str) (a:Addr),ObS τ[i]? c→σ[i]?=some (some (.ref a))→p∉Lof H c a):ObsOk K F τ σ (upd H p u):=by
 have ne:∀{a:Addr} {w:HO},H a=some w→(∀vs,w≠.lst vs)→a≠p:=fun {a w} h n z=>by
  subst z
  rcases hl with z|⟨ws,z⟩
  ·rw[z] at h;cases h
  ·rw[z] at h;cases h;exact n _ rfl
 refine o.keep (Same.refl F) (fun a C dx vs h=>?_) (fun a C dx vs _ h=>h) (fun d a h=>?_) fun i c a l ws h1 h2 h3 h4 h5=>⟨?_,h5⟩
 ·rw[zm (ne h fun _ z=>nomatch z)];exact h
 ·rw[zm (ne h fun _ z=>nomatch z)];exact h
 ·have:l≠p:=fun z=>by subst z;exact hp i c a h1 h2 h3
  rw[zm this];exact h4
omit [Tabs] in
theorem yL{τ:DS}{i j:Nat}{s u:Option Sl}(hs:UU s=false)(hu:UU u=true)(h:(τ.set i s)[j]?=some u):i≠j∧τ[j]?=some u:=by
 by_cases hij:i=j
 ·subst hij
  rw[getElem?_set] at h
  simp only[if_true] at h
  split at h
  ·cases h;rw[hs] at hu;cases hu
  ·cases h
 ·rw[getElem?_set_ne hij] at h;exact⟨hij,h⟩
omit [Tabs] in
theorem u9{τ:DS}{i j:Nat}{s:Option Sl}{c:Str}(hs:UU s=false)(h:ObS (τ.set i s)[j]? c):i≠j∧ObS τ[j]? c:=by
 rcases h with ⟨n,fs,h⟩|⟨fs,h⟩
 ·obtain⟨a,b⟩:=yL hs rfl h;exact⟨a,.inl ⟨n,fs,b⟩⟩
 ·obtain⟨a,b⟩:=yL hs rfl h;exact⟨a,.inr ⟨fs,b⟩⟩
theorem ObsOk.put{K:Frag}{F H:Hp}{τ:DS}{σ:St}{i:Nat}{s:Option Sl}{v:Option V}(o:ObsOk K F τ σ H)(hs:UU s=false)(hw:∀ds l,s=some (.own ds)→v=some (.ref l)→∀(j:Nat) (c:Str) (a:Addr),ObS τ[j]? c→σ[j]?=some (some (.ref a))→l∉Lof H c a):ObsOk K F (τ.set i s) (σ.set i v) H:=
 ⟨fun j m c fs h=>by
  obtain⟨n,h⟩:=yL hs rfl h
  rw[getElem?_set_ne n];exact o.at_ j m c fs h,
  fun j k m c c' fs a hjk h1 h2 h3 h4=>by
   obtain⟨n1,h1⟩:=yL hs rfl h1
   obtain⟨n2,h2⟩:=u9 hs h2
   rw[getElem?_set_ne n1] at h3
   rw[getElem?_set_ne n2] at h4
   exact o.dis j k m c c' fs a hjk h1 h2 h3 h4,
  fun j c fs h=>by
   obtain⟨n,h⟩:=yL hs rfl h
   rw[getElem?_set_ne n];exact o.rd j c fs h,
  fun j k m c c' fs a a' l hjk h1 h2 h3 h4=>by
   obtain⟨n1,h1⟩:=yL hs rfl h1
   obtain⟨n2,h2⟩:=u9 hs h2
   rw[getElem?_set_ne n1] at h3
   rw[getElem?_set_ne n2] at h4
   exact o.ll j k m c c' fs a a' l hjk h1 h2 h3 h4,
  fun j k c ds a l h1 h2 h3 h4 h5=>by
   obtain⟨n1,g1⟩:=u9 hs h1
   rw[getElem?_set_ne n1] at h3
   by_cases e:i=k
   ·subst e
    rw[getElem?_set] at h2 h4
    simp only[if_true] at h2 h4
    split at h2
    ·split at h4
     ·exact hw ds l (by simpa using h2) (by simpa using h4) j c a g1 h3 h5
     ·cases h4
    ·cases h2
   ·rw[getElem?_set_ne e] at h2 h4
    exact o.lo j k c ds a l g1 h2 h3 h4 h5⟩
theorem ObsOk.putS{K:Frag}{F H:Hp}{τ:DS}{σ:St}{i:Nat}{ds es:List D}(o:ObsOk K F τ σ H)(hi:τ[i]?=some (some (.own ds))):ObsOk K F (τ.set i (some (.own es))) σ H:=
 ⟨fun j m c fs h=>o.at_ j m c fs (yL (s:=some (.own es)) rfl rfl h).2,fun j k m c c' fs a hjk h1 h2=>o.dis j k m c c' fs a hjk (yL (s:=some (.own es)) rfl rfl h1).2 (u9 (s:=some (.own es)) rfl h2).2,fun j c fs h=>o.rd j c fs (yL (s:=some (.own es)) rfl rfl h).2,
  fun j k m c c' fs a a' l hjk h1 h2=>o.ll j k m c c' fs a a' l hjk (yL (s:=some (.own es)) rfl rfl h1).2 (u9 (s:=some (.own es)) rfl h2).2,fun j k c ds' a l h1 h2 h3 h4 h5=>by
   have h1:=(u9 (s:=some (.own es)) rfl h1).2
   by_cases e:i=k
   ·subst e;exact o.lo j i c ds a l h1 hi h3 h4 h5
   ·rw[getElem?_set_ne e] at h2;exact o.lo j k c ds' a l h1 h2 h3 h4 h5⟩
theorem ObsOk.fresh{K:Frag}{F H:Hp}{τ:DS}{σ:St}{p:Addr}(o:ObsOk K F τ σ H)(hp:H p=.none):∀(i:Nat) (c:Str) (a:Addr),ObS τ[i]? c→σ[i]?=some (some (.ref a))→p∉Lof H c a:=fun i c a h e hl=>by
 refine byc fun zG_=>?_
 obtain⟨a',C,dx,vs,fs,h1,h2,h3⟩:=o.get h
 refine zG_ ?_
 rw[e] at h1;cases h1
 rw[Lof.ins h2] at hl
 obtain⟨_,ws,q⟩:=h3.own hl
 rw[hp] at q;cases q
theorem ObsOk.lof{K:Frag}{F H:Hp}{τ:DS}{σ:St}{i:Nat}{c:Str}{a p:Addr}{u:HO}(o:ObsOk K F τ σ H)(h1:ObS τ[i]? c)(h2:σ[i]?=some (some (.ref a)))(hl:H p=.none∨∃vs,H p=some (.lst vs))(hp:p∉Lof H c a):Lof (upd H p u) c a=Lof H c a:=by
 refine byc fun zG_=>?_
 obtain⟨a',C,dx,vs,fs,h3,h4,h5⟩:=o.get h1
 refine zG_ ?_
 rw[h2] at h3;cases h3
 have:a≠p:=fun z=>by
  subst z
  rcases hl with z|⟨ws,z⟩
  ·rw[z] at h4;cases h4
  ·rw[z] at h4;cases h4
 rw[Lof.ins h4] at hp
 rw[Lof.ins h4,Lof.ins (show upd H p u a=some (.ins C dx vs) by rw[zm this];exact h4)]
 exact h5.same fun l ws q e1=>by
  have:l≠p:=fun z=>by subst z;exact hp q
  rw[zm this];exact e1
structure RV(K:Frag)(F:Hp)(τ:DS)(σ:St)(H:Hp):Prop where
 fh:Same F H
 len:τ.length=σ.length
 val:∀(i:Nat) (d:D),τ[i]?=some (some (.val d))→∃v,σ[i]?=some (some v)∧Rep K F d v
 own:∀(i:Nat) (ds:List D),τ[i]?=some (some (.own ds))→∃a vs,σ[i]?=some (some (.ref a))∧H a=some (.lst vs)∧F a=none∧Reps K F ds vs
 dis:∀(i j:Nat) (ds es:List D) (a:Addr),i≠j→τ[i]?=some (some (.own ds))→τ[j]?=some (some (.own es))→σ[i]?=some (some (.ref a))→σ[j]?=some (some (.ref a))→False
 tt:TbT F H
 ob:ObsOk K F τ σ H
theorem RV.ext{K:Frag}{F H F' H':Hp}{τ:DS}{σ:St}(R:RV K F τ σ H)(x:Ext F H F' H'):RV K F' τ σ H':=
 ⟨x.fh,R.len,fun i d e=>by
  obtain⟨v,h1,h2⟩:=R.val i d e
  exact⟨v,h1,h2.mono x.ff⟩,
  fun i ds e=>by
   refine byc fun zG_=>?_
   obtain⟨a,vs,h1,h2,h3,h4⟩:=R.own i ds e
   refine zG_ ?_
   refine⟨a,vs,h1,x.hh _ _ h2,?_,h4.mono x.ff⟩
   cases q:F' a with
   |none=>rfl
   |some o=>
    rcases x.nw a o q with z|z
    ·rw[h3] at z;cases z
    ·rw[h2] at z;exact absurd z (by simp),
  R.dis,x.tt R.tt,R.ob.ext x⟩
structure RS(K:Frag)(B Z F:Hp)(τ:DS)(σ:St)(H:Hp):Prop where
 rv:RV K F τ σ H
 bh:Hh B H
 zf:Same Z F
 nb:∀a o,F a=some o→Z a=some o∨B a=none
 ob:∀(i:Nat) (ds:List D) (a:Addr),τ[i]?=some (some (.own ds))→σ[i]?=some (some (.ref a))→B a=none
 oo:∀(i n:Nat) (c:Str) (fs:List (Str×D)) (a:Addr),τ[i]?=some (some (.obj n c fs))→σ[i]?=some (some (.ref a))→B a=none∧∀l∈Lof H c a,B l=none
 sf:∀(a0 dx:Addr),B dx=some (.own a0)→B a0=none→∀(i n:Nat) (c:Str) (fs:List (Str×D)),τ[i]?=some (some (.obj (n+1) c fs))→σ[i]?=some (some (.ref a0))
 ro:∀(i:Nat) (c:Str) (fs:List (Str×D)) (a:Addr),τ[i]?=some (some (.obr c fs))→σ[i]?=some (some (.ref a))→∃C dx vs,B a=some (.ins C dx vs)∧∀l∈zP B c vs,∃ws,B l=some (.lst ws)
theorem RS.ext{K:Frag}{B Z F H F' H':Hp}{τ:DS}{σ:St}(R:RS K B Z F τ σ H)(x:Ext F H F' H'):RS K B Z F' τ σ H':=
 ⟨R.rv.ext x,R.bh.trans x.hh,R.zf.trans x.ff,fun a o e=>by
  rcases x.nw a o e with q|q
  ·exact R.nb a o q
  ·exact .inr (xq R.bh q),R.ob,fun i n c fs a h1 h2=>by
  obtain⟨q1,q2⟩:=R.oo i n c fs a h1 h2
  refine⟨q1,fun l hl=>q2 l ?_⟩
  refine byc fun zG_=>?_
  obtain⟨a',h3,C,dx,vs,h4,_,_,h5,_⟩:=R.rv.ob.at_ i n c fs h1
  refine zG_ ?_
  rw[h2] at h3;cases h3
  rw[Lof.ins h4]
  rw[Lof.ins (x.hh _ _ h4:H' a=some (.ins C dx vs)),h5.same fun l ws _ e=>x.hh _ _ e] at hl
  exact hl,R.sf,R.ro⟩
theorem RS.out{K:Frag}{B Z F H:Hp}{τ:DS}{σ:St}(R:RS K B Z F τ σ H):Ext Z B F H:=⟨R.zf,R.bh,R.rv.fh,R.nb,fun _=>R.rv.tt⟩
noncomputable def Xob(X:Cx)(c:Str):Prop:=∀e s',X.xe e s'
noncomputable def Ok(X:Cx){α:Type}(r:Rs α)(P:α→Prop):Prop:=match r with
 |.ok a=>P a
 |.ex c=>Xob X c
 |.no=>False
theorem Ok.bind{X:Cx}{α β:Type}{r:Rs α}{k:α→Rs β}{P:β→Prop}(h:Ok X (r.bind k) P):Ok X r fun a=>Ok X (k a) P:=by
 cases r <;> exact h
theorem Ok.imp{X:Cx}{α:Type}{r:Rs α}{P Q:α→Prop}(h:Ok X r P)(f:∀a,P a→Q a):Ok X r Q:=by
 cases r with
 |ok a=>exact f a h
 |ex c=>exact h
 |no=>exact h
noncomputable abbrev FE:=DS→Rs D
noncomputable abbrev FA:=DS→Rs (List D)
noncomputable abbrev FT:=DS→Rs Bool
noncomputable def Ev(K:Frag)(F H:Hp)(Q:VK)(d:D):Prop:=∀v F' H',Ext F H F' H'→Rep K F' d v→Q v H'
noncomputable def Evs(K:Frag)(F H:Hp)(Q:List V→Hp→Prop)(ds:List D):Prop:=∀vs F' H',Ext F H F' H'→Reps K F' ds vs→Q vs H'
noncomputable def Evb(F H:Hp)(Q:Bool→Hp→Prop)(b:Bool):Prop:=∀F' H',Ext F H F' H'→Q b H'
theorem Ev.ext{K:Frag}{F H F1 H1:Hp}{Q:VK}{d:D}(h:Ev K F H Q d)(x:Ext F H F1 H1):Ev K F1 H1 Q d:=fun v F' H' y r=>h v F' H' (x.trans y) r
theorem Evb.ext{F H F1 H1:Hp}{Q:Bool→Hp→Prop}{d:Bool}(h:Evb F H Q d)(x:Ext F H F1 H1):Evb F1 H1 Q d:=fun F' H' y=>h F' H' (x.trans y)
noncomputable def tE(X:Cx)(f:FE):TE:=fun σ H Q=>∃F τ,RV X.K F τ σ H∧Ok X (f τ) (Ev X.K F H Q)
noncomputable def tAs(X:Cx)(f:FA):TA:=fun σ H Q=>∃F τ,RV X.K F τ σ H∧Ok X (f τ) (Evs X.K F H Q)
noncomputable def tTs(X:Cx)(f:FT):TT:=fun σ H Q=>∃F τ,RV X.K F τ σ H∧Ok X (f τ) (Evb F H Q)
noncomputable def PDE(X:Cx)(e:Expr)(f:FE):Prop:=PE X e (tE X f)
noncomputable def PDA(X:Cx)(e:List Expr)(f:FA):Prop:=PA X e (tAs X f)
noncomputable def PDT(X:Cx)(e:Expr)(f:FT):Prop:=PT X e (tTs X f)
noncomputable def PDW(X:Cx)(e:Expr)(f:FT):Prop:=PW X e (tTs X f)
theorem _root_.L2.PE.imp{X:Cx}{e:Expr}{t t':TE}(h:PE X e t)(f:∀σ H Q,t' σ H Q→t σ H Q):PE X e t':=fun pins s σ H Q I q=>h pins s σ H Q I (f _ _ _ q)
theorem _root_.L2.PT.imp{X:Cx}{e:Expr}{t t':TT}(h:PT X e t)(f:∀σ H Q,t' σ H Q→t σ H Q):PT X e t':=fun pins s σ H Q I q=>h pins s σ H Q I (f _ _ _ q)
theorem _root_.L2.PW.imp{X:Cx}{e:Expr}{t t':TT}(h:PW X e t)(f:∀σ H Q,t' σ H Q→t σ H Q):PW X e t':=fun w pins s σ H Q I q=>h w pins s σ H Q I (f _ _ _ q)
theorem _root_.L2.PA.imp{X:Cx}{e:List Expr}{t t':TA}(h:PA X e t)(f:∀σ H Q,t' σ H Q→t σ H Q):PA X e t':=fun p pins s σ H Q I q=>h p pins s σ H Q I (f _ _ _ q)
theorem _root_.L2.PS.imp{X:Cx}{e:Stmt}{t t':TS}(h:PS X e t)(f:∀E σ H,t' E σ H→t E σ H):PS X e t':=fun pins s σ H Q I q=>h pins s σ H Q I (f _ _ _ q)
theorem _root_.L2.PSs.imp{X:Cx}{e:List Stmt}{t t':TS}(h:PSs X e t)(f:∀E σ H,t' E σ H→t E σ H):PSs X e t':=fun pins s σ H Q I q=>h pins s σ H Q I (f _ _ _ q)
theorem tE.of{X:Cx}{f:FE}{F H:Hp}{τ:DS}{σ:St}{Q:VK}{G:D→Prop}(R:RV X.K F τ σ H)(h:Ok X (f τ) G)
  (k:∀d v F1 H1,G d→Ext F H F1 H1→RV X.K F1 τ σ H1→Rep X.K F1 d v→Q v H1):tE X f σ H Q:=
 ⟨F,τ,R,h.imp fun d g v F1 H1 x r=>k d v F1 H1 g x (R.ext x) r⟩
theorem tAs.of{X:Cx}{f:FA}{F H:Hp}{τ:DS}{σ:St}{Q:List V→Hp→Prop}{G:List D→Prop}(R:RV X.K F τ σ H)(h:Ok X (f τ) G)
  (k:∀d v F1 H1,G d→Ext F H F1 H1→RV X.K F1 τ σ H1→Reps X.K F1 d v→Q v H1):tAs X f σ H Q:=
 ⟨F,τ,R,h.imp fun d g v F1 H1 x r=>k d v F1 H1 g x (R.ext x) r⟩
theorem tTs.of{X:Cx}{f:FT}{F H:Hp}{τ:DS}{σ:St}{Q:Bool→Hp→Prop}{G:Bool→Prop}(R:RV X.K F τ σ H)(h:Ok X (f τ) G)
  (k:∀b F1 H1,G b→Ext F H F1 H1→RV X.K F1 τ σ H1→Q b H1):tTs X f σ H Q:=
 ⟨F,τ,R,h.imp fun d g F1 H1 x=>k d F1 H1 g x (R.ext x)⟩
noncomputable def ze(i:Nat):FE:=fun τ=>match τ[i]? with
 | some (some (.val d))=>.ok d
 |_=>.no
section
variable{X:Cx}{pos:Pos}
theorem zb{i:Nat}{x:Str}(h:PE X (.Name x pos) (yX i)):PDE X (.Name x pos) (ze i):=h.imp fun σ H Q z_=>by
 refine byc fun zG_=>?_
 obtain⟨F,τ,R,q⟩:=z_
 refine zG_ ?_
 unfold ze at q
 cases e:τ[i]? with
 |none=>rw[e] at q;exact q.elim
 |some o=>
  cases o with
  |none=>rw[e] at q;exact q.elim
  |some sl=>
   cases sl with
   |own ds=>rw[e] at q;exact q.elim
   |obj n c fs=>rw[e] at q;exact q.elim
   |obr c fs=>rw[e] at q;exact q.elim
   |val d=>
    rw[e] at q
    obtain⟨v,h1,h2⟩:=R.val i d e
    exact⟨v,h1,q v F H (Ext.refl R.fh) h2⟩
noncomputable def eC(d:D):FE:=fun _=>.ok d
theorem VF{e:Expr}{v:V}{d:D}(h:PE X e (tC v))(r:∀F,Rep X.K F d v):PDE X e (eC d):=h.imp fun σ H Q z_=>by obtain⟨F,τ,R,q⟩:=z_;exact q v F H (Ext.refl R.fh) (r F)
theorem zj{i j}:PDE X (.Constant (.int i) j pos) (eC (.int i)):=VF ze1 fun _=>by simp only[Rep]
theorem UE{i j}:PDE X (.Constant (.bool i) j pos) (eC (.bl i)):=VF pe_bl fun _=>by simp only[Rep]
theorem Yp{j}:PDE X (.Constant .none j pos) (eC .non):=VF ze0 fun _=>by simp only[Rep]
theorem vi{i j}:PDE X (.Constant (.str i) j pos) (eC (.str i)):=VF zd8 fun _=>by simp only[Rep]
end
noncomputable def OpD(X:Cx)(g:Value→Value→Sem Value)(op:D→D→Rs D):Prop:=∃r:R2,OpR X g r ∧
 ∀F H x y dx dy Q,Same F H→Rep X.K F dx x→Rep X.K F dy y→Ok X (op dx dy) (Ev X.K F H Q)→r x y H Q
noncomputable def eOp(op:D→D→Rs D)(fa fb:FE):FE:=fun τ=>(fa τ).bind fun x=>(fb τ).bind fun y=>op x y
section
variable{X:Cx}{pos:Pos}{a b c:Expr}{fa fb fc:FE}
theorem JE{r:R2}{op:D→D→Rs D}(hl:∀F H x y dx dy Q,Same F H→Rep X.K F dx x→Rep X.K F dy y→Ok X (op dx dy) (Ev X.K F H Q)→r x y H Q)
  (σ:St) (H:Hp) (Q:VK) (h:tE X (eOp op fa fb) σ H Q):tOp r (tE X fa) (tE X fb) σ H Q:=by
 refine byc fun zG_=>?_
 obtain⟨F,τ,R,h⟩:=h
 refine zG_ ?_
 refine tE.of R h.bind fun x u F1 H1 g x1 R1 r1=>?_
 refine tE.of R1 g.bind fun y v F2 H2 g2 x2 R2 r2=>?_
 exact hl F2 H2 u v x y Q R2.fh (r1.mono x2.ff) r2 (g2.imp fun d e=>e.ext (x1.trans x2))
theorem zx{o:Operator}{op:D→D→Rs D}(ho:OpD X (binaryOp o) op)(ha:PDE X a fa)(hb:PDE X b fb):PDE X (.BinOp a o b pos) (eOp op fa fb):=by
 obtain⟨r,h1,h2⟩:=ho
 exact(pe_op h1 ha hb).imp (JE h2)
theorem wY{o:CmpOp}{op:D→D→Rs D}(ho:OpD X (compareOp o) op)(ha:PDE X a fa)(hb:PDE X b fb)(hm:behindInMarks o b=false):PDE X (.Compare a [o] [b] pos) (eOp op fa fb):=by
 obtain⟨r,h1,h2⟩:=ho
 exact(TY h1 ha hb hm).imp (JE h2)
noncomputable def tB(f:FE):FT:=fun τ=>(f τ).bind fun d=>match d with
 |.bl b=>.ok b
 |_=>.no
theorem Jc{t:FE}{u:TE}(hi:∀σ H Q,tE X t σ H Q→u σ H Q)(σ:St)(H:Hp)(Q:Bool→Hp→Prop)(h:tTs X (tB t) σ H Q):L7 u σ H Q:=by
 refine byc fun zG_=>?_
 obtain⟨F,τ,R,h⟩:=h
 refine zG_ ?_
 refine hi σ H _ (tE.of R h.bind fun d v F1 H1 g x R1 r=>?_)
 cases d with
 |bl k=>simp only[Rep] at r;exact⟨k,r,g F1 H1 x⟩
 |_=>exact g.elim
theorem zS{o:CmpOp}{op:D→D→Rs D}(ho:OpD X (compareOp o) op)(ha:PDE X a fa)(hb:PDE X b fb)(hm:behindInMarks o b=false):PDT X (.Compare a [o] [b] pos) (tB (eOp op fa fb)):=by
 obtain⟨r,h1,h2⟩:=ho
 exact(WE h1 ha hb hm).imp (Jc (JE h2))
noncomputable def Zv:D→Rs Bool
 |.non=>.ok false
 |.bl b=>.ok b
 |.int i=>.ok (i != 0)
 |.str x=>if x.length≤sizeLine then .ok ((x.length:Int) != 0) else .no
 |.lst ds=>.ok (!ds.isEmpty)
 |.tup ds=>.ok (!ds.isEmpty)
 |.scr ns=>.ok (!ns.isEmpty)
 |.raw _=>.no
 |.exc _=>.no
 |.dct _ _=>.no
theorem Zc{K:Frag}{F:Hp}{ds:List D}{vs:List V}(h:Reps K F ds vs):ds.isEmpty=vs.isEmpty:=by
 have:=h.length
 cases ds <;> cases vs <;> simp_all
theorem Ul{F H:Hp}{d:D}{v:V}{Q:Bool→Hp→Prop}(fh:Same F H)(r:Rep X.K F d v)(h:Ok X (Zv d) (fun b=>Q b H)):∃k,zk3 X.K v H k∧Q k H:=by
 cases d with
 |non=>simp only[Rep] at r;subst r;exact⟨_,rfl,h⟩
 |bl b=>simp only[Rep] at r;subst r;exact⟨_,rfl,h⟩
 |int i=>simp only[Rep] at r;subst r;exact⟨_,rfl,h⟩
 |str x=>
  simp only[Rep] at r;subst r
  (delta Zv at h;dsimp only at h)
  by_cases z:x.length≤sizeLine
  ·rw[if_pos z] at h;exact⟨_,⟨z,rfl⟩,h⟩
  ·rw[if_neg z] at h;exact h.elim
 |lst ds=>
  simp only[Rep] at r;obtain⟨a,vs,rfl,e,q⟩:=r
  refine⟨!vs.isEmpty,.inl ⟨vs,SqL.of (fh _ _ e),rfl⟩,?_⟩
  rw[← Zc q];exact h
 |tup ds=>
  simp only[Rep] at r;obtain⟨a,vs,rfl,e,q⟩:=r
  refine⟨!vs.isEmpty,.inr (.inl ⟨vs,Same.seqT fh e,rfl⟩),?_⟩
  rw[← Zc q];exact h
 |scr ns=>
  simp only[Rep] at r;obtain⟨a,rfl,e⟩:=r
  refine⟨!(ns.map V.int).isEmpty,.inl ⟨_,fh.seq e,rfl⟩,?_⟩
  have e2:(ns.map V.int).isEmpty=ns.isEmpty:=by cases ns <;> rfl
  rw[e2];exact h
 |raw u=>exact h.elim
 |exc c=>exact h.elim
 |dct _ _=>exact h.elim
noncomputable def vQ(f:FE):FT:=fun τ=>(f τ).bind Zv
theorem uk(ha:PDE X a fa)(he:∀whole,isTrue a X.env whole=(do let v ← whole;standAt a.pos;holding [v] (truthy v)):=by intro _;rfl):PDT X a (vQ fa):=
 (GK ha he).imp fun σ H Q z_=>by obtain⟨F,τ,R,h⟩:=z_;exact tE.of R h.bind fun d v F1 H1 g x R1 r=>Ul R1.fh r (g.imp fun b e=>e F1 H1 x)
noncomputable def uQ(f g:FT):FT:=fun τ=>(f τ).bind fun b=>if b=true then g τ else .ok false
noncomputable def Z9(f g:FT):FT:=fun τ=>(f τ).bind fun b=>if b=true then .ok true else g τ
noncomputable def uP(f:FT):FT:=fun τ=>(f τ).bind fun b=>.ok (!b)
variable{ga gb:FT}{rest:List Expr}
theorem jY(ha:PDT X a ga):PDW X (.BoolOp .And [a] pos) ga:=TJ ha
theorem Ym(ha:PDT X a ga):PDW X (.BoolOp .Or [a] pos) ga:=GI ha
theorem Yn(ha:PDT X a ga)(hb:PDW X (.BoolOp .And (b::rest) pos) gb):PDW X (.BoolOp .And (a::b::rest) pos) (uQ ga gb):=
 PW.imp (zc8 ha hb) fun σ H Q z_=>by
  refine byc fun zG_=>?_
  obtain⟨F,τ,R,h⟩:=z_
  refine zG_ ?_
  refine tTs.of R h.bind fun k F1 H1 g x R1=>?_
  cases k with
  |true=>rw[if_pos rfl];rw[if_pos rfl] at g;exact⟨F1,τ,R1,g.imp fun d e=>e.ext x⟩
  |false=>rw[if_neg (by simp)];rw[if_neg (by simp)] at g;exact g F1 H1 x
theorem YK(ha:PDT X a ga)(hb:PDW X (.BoolOp .Or (b::rest) pos) gb):PDW X (.BoolOp .Or (a::b::rest) pos) (Z9 ga gb):=
 PW.imp (za1 ha hb) fun σ H Q z_=>by
  refine byc fun zG_=>?_
  obtain⟨F,τ,R,h⟩:=z_
  refine zG_ ?_
  refine tTs.of R h.bind fun k F1 H1 g x R1=>?_
  cases k with
  |false=>rw[if_neg (by simp)];rw[if_neg (by simp)] at g;exact⟨F1,τ,R1,g.imp fun d e=>e.ext x⟩
  |true=>rw[if_pos rfl];rw[if_pos rfl] at g;exact g F1 H1 x
theorem ZV{e:Expr}(h:PDW X e ga):PDT X e ga:=PW.pt h
theorem WJ(ha:PDT X a ga):PDT X (.UnaryOp .Not a pos) (uP ga):=
 PT.imp (zc9 ha) fun σ H Q z_=>by obtain⟨F,τ,R,h⟩:=z_;exact tTs.of R h.bind fun k F1 H1 g x R1=>g F1 H1 x
noncomputable def eIf(g:FT)(fa fb:FE):FE:=fun τ=>(g τ).bind fun b=>if b=true then fa τ else fb τ
theorem ze4(hc:PDT X c ga)(ha:PDE X a fa)(hb:PDE X b fb):PDE X (.IfExp c a b pos) (eIf ga fa fb):=
 PE.imp (GQ hc ha hb) fun σ H Q z_=>by
  refine byc fun zG_=>?_
  obtain⟨F,τ,R,h⟩:=z_
  refine zG_ ?_
  refine tTs.of R h.bind fun k F1 H1 g x R1=>?_
  cases k with
  |true=>rw[if_pos rfl];rw[if_pos rfl] at g;exact⟨F1,τ,R1,g.imp fun d e=>e.ext x⟩
  |false=>rw[if_neg (by simp)];rw[if_neg (by simp)] at g;exact⟨F1,τ,R1,g.imp fun d e=>e.ext x⟩
noncomputable def zj3(fa fb:FE):FE:=fun τ=>(fa τ).bind fun x=>(Zv x).bind fun b=>if b=true then fb τ else .ok x
noncomputable def eOr(fa fb:FE):FE:=fun τ=>(fa τ).bind fun x=>(Zv x).bind fun b=>if b=true then .ok x else fb τ
theorem Yo{op}(h:PDE X a fa):PDE X (.BoolOp op [a] pos) fa:=zd9 h
theorem T8(ha:PDE X a fa)(hb:PDE X (.BoolOp .And (b::rest) pos) fb):PDE X (.BoolOp .And (a::b::rest) pos) (zj3 fa fb):=by
 rintro pins s σ H Q I ⟨F,τ,R,h⟩
 refine BoolOp_and (thn (ha pins s σ H _ I (tE.of R h.bind fun d v F1 H1 g x R1 r=>(⟨d,F1,g,x,R1,r⟩:∃d F1,Ok X ((Zv d).bind fun b=>if b=true then fb τ else .ok d) (Ev X.K F H Q)∧Ext F H F1 H1∧RV X.K F1 τ σ H1∧Rep X.K F1 d v))) fun v s1 z_=>?_)
 refine byc fun zG_=>?_
 obtain⟨x,H1,I1,r1,d,F1,g,x1,R1,r⟩:=z_
 refine zG_ ?_
 refine thn (tru_ok pins s1 σ H1 x v (fun b H2=>H2=H1∧Ok X (if b=true then fb τ else .ok d) (Ev X.K F H Q)) I1 r1 (Ul (Q:=fun b H2=>H2=H1∧Ok X (if b=true then fb τ else .ok d) (Ev X.K F H Q)) R1.fh r (g.bind.imp fun b e=>⟨rfl,e⟩))) fun k s2 z_=>?_
 refine byc fun zG_=>?_
 obtain⟨H2,I2,e2,q⟩:=z_
 refine zG_ ?_
 subst e2
 cases k with
 |true=>rw[if_pos rfl] at q ⊢;exact hb pins s2 σ _ Q I2 ⟨F1,τ,R1,q.imp fun d e=>e.ext x1⟩
 |false=>rw[if_neg (by simp)] at q ⊢;exact⟨x,_,I2,r1,q x F1 _ x1 r⟩
theorem WN(ha:PDE X a fa)(hb:PDE X (.BoolOp .Or (b::rest) pos) fb):PDE X (.BoolOp .Or (a::b::rest) pos) (eOr fa fb):=by
 rintro pins s σ H Q I ⟨F,τ,R,h⟩
 refine BoolOp_or (thn (ha pins s σ H _ I (tE.of R h.bind fun d v F1 H1 g x R1 r=>(⟨d,F1,g,x,R1,r⟩:∃d F1,Ok X ((Zv d).bind fun b=>if b=true then .ok d else fb τ) (Ev X.K F H Q)∧Ext F H F1 H1∧RV X.K F1 τ σ H1∧Rep X.K F1 d v))) fun v s1 z_=>?_)
 refine byc fun zG_=>?_
 obtain⟨x,H1,I1,r1,d,F1,g,x1,R1,r⟩:=z_
 refine zG_ ?_
 refine thn (tru_ok pins s1 σ H1 x v (fun b H2=>H2=H1∧Ok X (if b=true then .ok d else fb τ) (Ev X.K F H Q)) I1 r1 (Ul (Q:=fun b H2=>H2=H1∧Ok X (if b=true then .ok d else fb τ) (Ev X.K F H Q)) R1.fh r (g.bind.imp fun b e=>⟨rfl,e⟩))) fun k s2 z_=>?_
 refine byc fun zG_=>?_
 obtain⟨H2,I2,e2,q⟩:=z_
 refine zG_ ?_
 subst e2
 cases k with
 |false=>rw[if_neg (by simp)] at q ⊢;exact hb pins s2 σ _ Q I2 ⟨F1,τ,R1,q.imp fun d e=>e.ext x1⟩
 |true=>rw[if_pos rfl] at q ⊢;exact⟨x,_,I2,r1,q x F1 _ x1 r⟩
end
section
variable{X:Cx}{pos:Pos}{e:Expr}{es:List Expr}{fe:FE}{fs:FA}
noncomputable def zi:FA:=fun _=>.ok []
noncomputable def za(f:FE)(g:FA):FA:=fun τ=>(f τ).bind fun x=>(g τ).bind fun r=>.ok (x::r)
theorem zk:PDA X [] zi:=PA.imp wK fun σ H Q z_=>by obtain⟨F,τ,R,h⟩:=z_;exact h [] F H (Ext.refl R.fh) Reps.nil
theorem zc(ha:PDE X e fe)(hr:PDA X es fs)(hs:starEach (e::es) X.env=(false,eval e X.env)::starEach es X.env:=by rfl):PDA X (e::es) (za fe fs):=
 PA.imp (xI ha hr hs) fun σ H Q ⟨F,τ,R,h⟩=>tE.of R h.bind fun x v F1 H1 g x1 R1 r1=>tAs.of R1 g.bind fun ys vs F2 H2 g2 x2 R2 r2=>
  g2 (v::vs) F2 H2 (x1.trans x2) (Reps.cons (r1.mono x2.ff) r2)
noncomputable def vx(f:FA):FE:=fun τ=>(f τ).bind fun ds=>if ds.length≤sizeLine then .ok (.tup ds) else .no
noncomputable def uy(f:FA):FE:=fun τ=>(f τ).bind fun ds=>if ds.length≤sizeLine then .ok (.lst ds) else .no
theorem yE{X:Cx}{α:Type}{c:Prop}[Decidable c]{a:α}{P:α→Prop}(h:Ok X (if c then .ok a else .no) P):c∧P a:=by
 by_cases z:c
 ·rw[if_pos z] at h;exact⟨z,h⟩
 ·rw[if_neg z] at h;exact h.elim
theorem ul{x1}(h:PDA X es fs):PDE X (.Tuple es x1 pos) (vx fs):=
 PE.imp (zd7 h) fun σ H Q z_=>by
  refine byc fun zG_=>?_
  obtain⟨F,τ,R,hq⟩:=z_
  refine zG_ ?_
  refine tAs.of R hq.bind fun ds vs F1 H1 g x R1 r=>?_
  obtain⟨z,g⟩:=yE g
  refine⟨by rw[← r.length];exact z,fun p hp=>g (.ref p) _ _ (x.trans (Ext.new R1.fh hp)) ?_⟩
  simp only[Rep]
  exact⟨p,vs,rfl,SqT.of zo,r.mono (yt (zI R1.fh hp))⟩
theorem um(h:PDA X es fs):PDE X (.List es pos) (uy fs):=
 PE.imp (Uy h) fun σ H Q z_=>by
  refine byc fun zG_=>?_
  obtain⟨F,τ,R,hq⟩:=z_
  refine zG_ ?_
  refine tAs.of R hq.bind fun ds vs F1 H1 g x R1 r=>?_
  obtain⟨z,g⟩:=yE g
  refine⟨by rw[← r.length];exact z,fun p hp=>g (.ref p) _ _ (x.trans (Ext.new R1.fh hp)) ?_⟩
  simp only[Rep]
  exact⟨p,vs,rfl,zo,r.mono (yt (zI R1.fh hp))⟩
end
inductive Fl where
 | nx (τ:DS) | rt (d:D) | bk (τ:DS) | ct (τ:DS) | ex (c:Str) | no
 | rs (c:Str) (τ:DS)
 | ro (d:D) (τ:DS)
 | rb (i:Nat) (τ:DS)
noncomputable def Nw(X:Cx)(H:Hp)(b:Addr):Prop:=H b=none∧X.s₀.heap.get? b=none∧∀p∈X.pn,p.1≠b
noncomputable def ExcAt(X:Cx)(H:Hp)(h:Heap)(a:Addr)(cls:Value):Prop:=Nw X H a∧∃oe vs,h.get? a=some oe∧oe.cls=cls∧oe.dict=none∧oe.data=.fields vs ∧
 (vs[1]?=some .none∨∃T oT ts fl,vs[1]?=some (.ref T)∧Nw X H T∧T≠a∧h.get? T=some oT∧oT.data=.fields ts∧ts[3]?=some fl)∧vs[2]?=some .none
noncomputable def XA(X:Cx)(c:Str)(σ:St)(H:Hp):Prop:=∀s a cls,nsIn X.K mainGlobals c=some (some cls)→Inv X [] σ H s→ExcAt X H s.heap a cls→X.xe (.ref a) s
noncomputable abbrev FS:=DS→Fl
noncomputable def Post(X:Cx)(B Z F:Hp)(E:XQ):Fl→Prop
 |.nx τ=>∀σ F' H',Same F F'→RS X.K B Z F' τ σ H'→E.nx σ H'
 |.bk τ=>∀σ F' H',Same F F'→RS X.K B Z F' τ σ H'→E.bk σ H'
 |.ct τ=>∀σ F' H',Same F F'→RS X.K B Z F' τ σ H'→E.ct σ H'
 |.rt d=>∀v F' H',Ext Z B F' H'→Rep X.K F' d v→E.rt v H'
 |.ex c=>Xob X c
 |.no=>False
 |.rs c τ=>∀σ F' H',Same F F'→RS X.K B Z F' τ σ H'→XA X c σ H'
 |.ro d τ=>∀v σ F' H',Same F F'→RS X.K B Z F' τ σ H'→Rep X.K F' d v→E.rt v H'
 |.rb i τ=>∀v σ F' H',Same F F'→RS X.K B Z F' τ σ H'→σ[i]?=some (some v)→E.rt v H'
theorem Post.same{X:Cx}{B Z F F1:Hp}{E:XQ}{r:Fl}(h:Post X B Z F E r)(f:Same F F1):Post X B Z F1 E r:=by
 cases r with
 |nx τ=>exact fun σ F' H' g R=>h σ F' H' (f.trans g) R
 |bk τ=>exact fun σ F' H' g R=>h σ F' H' (f.trans g) R
 |ct τ=>exact fun σ F' H' g R=>h σ F' H' (f.trans g) R
 |rt d=>exact h
 |ex c=>exact h
 |no=>exact h
 |rs c τ=>exact fun σ F' H' g R=>h σ F' H' (f.trans g) R
 |ro d τ=>exact fun v σ F' H' g R r=>h v σ F' H' (f.trans g) R r
 |rb i τ=>exact fun v σ F' H' g R r=>h v σ F' H' (f.trans g) R r
noncomputable def tS(X:Cx)(f:FS):TS:=fun E σ H=>∃B Z F τ,RS X.K B Z F τ σ H∧Post X B Z F E (f τ)
noncomputable def PDS(X:Cx)(st:Stmt)(f:FS):Prop:=PS X st (tS X f)
noncomputable def vC(X:Cx)(st:List Stmt)(f:FS):Prop:=PSs X st (tS X f)
noncomputable def Fl.of{α:Type}(r:Rs α)(k:α→Fl):Fl:=match r with
 |.ok a=>k a
 |.ex c=>.ex c
 |.no=>.no
@[simp] theorem Fl.of_ok{α:Type}(a:α)(k:α→Fl):Fl.of (.ok a) k=k a:=rfl
theorem Post.of{X:Cx}{B Z F:Hp}{E:XQ}{α:Type}{r:Rs α}{k:α→Fl}(h:Post X B Z F E (Fl.of r k)):Ok X r fun a=>Post X B Z F E (k a):=by
 cases r <;> exact h
section
variable{X:Cx}{pos:Pos}{e:Expr}{es:List Expr}{fe:FE}{fs:FA}{st:Stmt}{rest:List Stmt}{f g:FS}{c:Expr}{gc:FT}
noncomputable def yd:FS:=fun τ=>.nx τ
noncomputable def zC(f g:FS):FS:=fun τ=>match f τ with
 |.nx τ'=>g τ'
 |r=>r
theorem z0:vC X [] yd:=PSs.imp TM fun E σ H z_=>by obtain⟨B,Z,F,τ,R,h⟩:=z_;exact h σ F H (Same.refl F) R
theorem zp(h:PDS X st f):vC X [st] f:=TL h
theorem zn(h1:PDS X st f)(h2:vC X rest g):vC X (st::rest) (zC f g):=
 PSs.imp (jX h1 h2) fun E σ H z_=>by
  refine byc fun zG_=>?_
  obtain⟨B,Z,F,τ,R,h⟩:=z_
  refine zG_ ?_
  refine⟨B,Z,F,τ,R,?_⟩
  unfold zC at h
  cases q:f τ with
  |nx τ'=>rw[q] at h;exact fun σ' F' H' ff R'=>⟨B,Z,F',τ',R',Post.same h ff⟩
  |rt d=>rw[q] at h;exact h
  |bk d=>rw[q] at h;exact h
  |ct d=>rw[q] at h;exact h
  |ex d=>rw[q] at h;exact h
  |no=>rw[q] at h;exact h
  |rs c d=>rw[q] at h;exact h
  |ro c d=>rw[q] at h;exact h
  |rb c d=>rw[q] at h;exact h
noncomputable def Uv:FS:=fun τ=>.bk τ
theorem Qv:PDS X (.Break pos) Uv:=PS.imp GN fun E σ H z_=>by obtain⟨B,Z,F,τ,R,h⟩:=z_;exact h σ F H (Same.refl F) R
noncomputable def sNo:FS:=fun _=>.no
theorem jb:PDS X st sNo:=PS.imp GM fun E σ H z_=>by obtain⟨B,Z,F,τ,R,h⟩:=z_;exact h
noncomputable def xz(fe:FE):FS:=fun τ=>Fl.of (fe τ) fun d=>.rt d
theorem tE.at{B Z F H:Hp}{τ:DS}{σ:St}{Q:VK}{G:D→Prop}(R:RS X.K B Z F τ σ H)(h:Ok X (fe τ) G)
  (k:∀d v F1 H1,G d→Ext F H F1 H1→RS X.K B Z F1 τ σ H1→Rep X.K F1 d v→Q v H1):tE X fe σ H Q:=
 tE.of R.rv h fun d v F1 H1 g x _ r=>k d v F1 H1 g x (R.ext x) r
theorem zV(he:PDE X e fe):PDS X (.Return (some e) pos) (xz fe):=
 PS.imp (WG he) fun E σ H z_=>by obtain⟨B,Z,F,τ,R,h⟩:=z_;exact tE.at R h.of fun d v F1 H1 g x R1 r=>g v F1 H1 R1.out r
noncomputable def sIf(gc:FT)(f g:FS):FS:=fun τ=>Fl.of (gc τ) fun b=>if b=true then f τ else g τ
theorem xa{a b:List Stmt}(hc:PDT X c gc)(ha:vC X a f)(hb:vC X b g):PDS X (.If c a b pos) (sIf gc f g):=
 PS.imp (za2 hc ha hb) fun E σ H z_=>by
  refine byc fun zG_=>?_
  obtain⟨B,Z,F,τ,R,h⟩:=z_
  refine zG_ ?_
  refine tTs.of R.rv h.of fun k F1 H1 q x _=>?_
  cases k with
  |true=>rw[if_pos rfl] at q ⊢;exact⟨B,Z,F1,τ,R.ext x,q.same x.ff⟩
  |false=>rw[if_neg (by simp)] at q ⊢;exact⟨B,Z,F1,τ,R.ext x,q.same x.ff⟩
theorem RV.set{K:Frag}{F H:Hp}{τ:DS}{σ:St}{i:Nat}{d:D}{v:V}(R:RV K F τ σ H)(r:Rep K F d v):RV K F (τ.set i (some (.val d))) (σ.set i (some v)) H:=by
 refine⟨R.fh,by simp[R.len],fun j e h=>?_,fun j es h=>?_,fun j k ds es a hjk h1 h2 h3 h4=>?_,?_,?_⟩
 ·by_cases hij:i=j
  ·subst hij
   have hlt:i<τ.length:=by
    rcases lt_or_ge i τ.length with z|z
    ·exact z
    ·rw[List.getElem?_eq_none_iff.mpr (by simpa using z)] at h;cases h
   rw[getElem?_set_self hlt] at h
   cases h
   exact⟨v,by rw[getElem?_set_self (by rw[← R.len];exact hlt)],r⟩
  ·rw[getElem?_set_ne hij] at h ⊢
   exact R.val j e h
 ·by_cases hij:i=j
  ·subst hij
   rw[getElem?_set] at h
   simp only[if_true] at h
   split at h <;> cases h
  ·rw[getElem?_set_ne hij] at h ⊢
   exact R.own j es h
 ·have n1:i≠j:=fun z=>by
   subst z
   rw[getElem?_set] at h1
   simp only[if_true] at h1
   split at h1 <;> cases h1
  have n2:i≠k:=fun z=>by
   subst z
   rw[getElem?_set] at h2
   simp only[if_true] at h2
   split at h2 <;> cases h2
  rw[getElem?_set_ne n1] at h1 h3
  rw[getElem?_set_ne n2] at h2 h4
  exact R.dis j k ds es a hjk h1 h2 h3 h4
 ·exact R.tt
 ·exact R.ob.put rfl fun _ _ z=>by cases z
theorem RS.set{K:Frag}{B Z F H:Hp}{τ:DS}{σ:St}{i:Nat}{d:D}{v:V}(R:RS K B Z F τ σ H)(r:Rep K F d v):RS K B Z F (τ.set i (some (.val d))) (σ.set i (some v)) H:=
 ⟨R.rv.set r,R.bh,R.zf,R.nb,fun j ds a h1 h2=>by
  have n1:i≠j:=fun z=>by
   subst z
   rw[getElem?_set] at h1
   simp only[if_true] at h1
   split at h1 <;> cases h1
  rw[getElem?_set_ne n1] at h1 h2
  exact R.ob j ds a h1 h2,fun j m c fs a h1 h2=>by
  obtain⟨n,h1⟩:=yL (s:=some (.val d)) rfl rfl h1
  rw[getElem?_set_ne n] at h2
  exact R.oo j m c fs a h1 h2,fun a0 dx b1 b2 j m c fs h=>by
  obtain⟨n,h⟩:=yL (s:=some (.val d)) rfl rfl h
  rw[getElem?_set_ne n]
  exact R.sf a0 dx b1 b2 j m c fs h,fun j c fs a h1 h2=>by
  obtain⟨n,h1⟩:=yL (s:=some (.val d)) rfl rfl h1
  rw[getElem?_set_ne n] at h2
  exact R.ro j c fs a h1 h2⟩
noncomputable def yR(i:Nat)(fe:FE):FS:=fun τ=>Fl.of (fe τ) fun d=>.nx (τ.set i (some (.val d)))
theorem z6{i:Nat}{x:Str}{pos':Pos}(hN:X.N.Nodup)(hi:X.N[i]?=some x)(hx:Loc X.env.scope x)(he:PDE X e fe)(hs:swapsWith e (some (.Name x pos')) pos.line X.env=pure false:=by rfl)(hf:X.fn x=true∨X.env.scope.names.lookup x=some .local:=by first|exact .inl rfl|exact .inr rfl|assumption) :
  PDS X (.Assign [.Name x pos'] e pos) (yR i fe):=
 PS.imp (WF hN hi hx he hs hf) fun E σ H z_=>by obtain⟨B,Z,F,τ,R,h⟩:=z_;exact tE.at R h.of fun d v F1 H1 g x R1 r=>g _ F1 H1 x.ff (R1.set r)
noncomputable def tFr(X:Cx)(f:FA):TE:=fun σ H Q=>∃F τ,RV X.K F τ σ H∧Ok X (f τ) fun ds=>∀p vs F' H',Ext F H F' H'→H' p=none→Reps X.K F' ds vs→Q (.ref p) (upd H' p (.lst vs))
noncomputable def PDF(X:Cx)(e:Expr)(f:FA):Prop:=PE X e (tFr X f)
theorem WM(h:PDA X es fs):PDF X (.List es pos) (fun τ=>(fs τ).bind fun ds=>if ds.length≤sizeLine then .ok ds else .no):=
 PE.imp (Uy h) fun σ H Q z_=>by
  refine byc fun zG_=>?_
  obtain⟨F,τ,R,hq⟩:=z_
  refine zG_ ?_
  refine tAs.of R hq.bind fun ds vs F1 H1 g x R1 r=>?_
  obtain⟨z,g⟩:=yE g
  exact⟨by rw[← r.length];exact z,fun p hp=>g p vs F1 H1 x hp r⟩
theorem ZC{ff:FA}(h:PDF X e ff):PDE X e (fun τ=>(ff τ).bind fun ds=>.ok (.lst ds)):=
 PE.imp h fun σ H Q ⟨F,τ,R,hq⟩=>⟨F,τ,R,hq.bind.imp fun ds g p vs F1 H1 x hp r=>by
  refine g (.ref p) _ _ (x.trans (Ext.new x.fh hp)) ?_
  simp only[Rep]
  exact⟨p,vs,rfl,zo,r.mono (yt (zI x.fh hp))⟩⟩
noncomputable def v4(i:Nat)(ff:FA):FS:=fun τ=>Fl.of (ff τ) fun ds=>.nx (τ.set i (some (.own ds)))
theorem RV.setO{K:Frag}{F H:Hp}{τ:DS}{σ:St}{i:Nat}{p:Addr}{ds:List D}{vs:List V}(R:RV K F τ σ H)(hp:H p=none)(r:Reps K F ds vs):RV K F (τ.set i (some (.own ds))) (σ.set i (some (.ref p))) (upd H p (.lst vs)):=by
 have nofr:=zI R.fh hp
 have hlt:∀{o:Sl},(τ.set i (some (.own ds)))[i]?=some (some o)→i<τ.length:=fun {o} h=>by
  rcases lt_or_ge i τ.length with z|z
  ·exact z
  ·rw[List.getElem?_eq_none_iff.mpr (by simpa using z)] at h;cases h
 refine⟨R.fh.trans (yt hp),by simp[R.len],fun j e h=>?_,fun j es h=>?_,fun j k es es' a hjk h1 h2 h3 h4=>?_,?_,?_⟩
 ·by_cases hij:i=j
  ·subst hij
   rw[getElem?_set_self (hlt h)] at h;cases h
  ·rw[getElem?_set_ne hij] at h ⊢
   exact R.val j e h
 ·by_cases hij:i=j
  ·subst hij
   have l:=hlt h
   rw[getElem?_set_self l] at h
   cases h
   exact⟨p,vs,by rw[getElem?_set_self (by rw[← R.len];exact l)],zo,nofr,r⟩
  ·rw[getElem?_set_ne hij] at h ⊢
   refine byc fun zG_=>?_
   obtain⟨a,ws,q1,q2,q3,q4⟩:=R.own j es h
   refine zG_ ?_
   exact⟨a,ws,q1,by rw[zm (zA q2 hp)];exact q2,q3,q4⟩
 ·by_cases n1:i=j
  ·subst n1
   rw[getElem?_set_ne hjk] at h2 h4
   refine byc fun zG_=>?_
   obtain⟨a',ws,q1,q2,q3,q4⟩:=R.own k es' h2
   refine zG_ ?_
   rw[q1] at h4;cases h4
   have l:=hlt h1
   rw[getElem?_set_self (by rw[← R.len];exact l)] at h3
   cases h3
   rw[hp] at q2;cases q2
  ·by_cases n2:i=k
   ·subst n2
    rw[getElem?_set_ne (Ne.symm hjk)] at h1 h3
    refine byc fun zG_=>?_
    obtain⟨a',ws,q1,q2,q3,q4⟩:=R.own j es h1
    refine zG_ ?_
    rw[q1] at h3;cases h3
    have l:=hlt h2
    rw[getElem?_set_self (by rw[← R.len];exact l)] at h4
    cases h4
    rw[hp] at q2;cases q2
   ·rw[getElem?_set_ne n1] at h1 h3
    rw[getElem?_set_ne n2] at h2 h4
    exact R.dis j k es es' a hjk h1 h2 h3 h4
 ·exact R.tt.step (fun _ _ e=>.inl e) (fun b o e _=>by rw[zm (zA e hp)];exact e) (wq fun _ z=>nomatch z)
 ·have o1:ObsOk K F (τ.set i (some (.own ds))) (σ.set i (some (.ref p))) H:=R.ob.put rfl fun _ l _ z=>by
   cases z;exact R.ob.fresh hp
  exact o1.updL (.inl hp) (o1.fresh hp)
theorem RS.setO{K:Frag}{B Z F H:Hp}{τ:DS}{σ:St}{i:Nat}{p:Addr}{ds:List D}{vs:List V}(R:RS K B Z F τ σ H)(hp:H p=none)(r:Reps K F ds vs):RS K B Z F (τ.set i (some (.own ds))) (σ.set i (some (.ref p))) (upd H p (.lst vs)):=
 ⟨R.rv.setO hp r,R.bh.trans (.of (yt hp)),R.zf,R.nb,fun j es a h1 h2=>by
  by_cases n1:i=j
  ·subst n1
   have l:i<τ.length:=by
    rcases lt_or_ge i τ.length with z|z
    ·exact z
    ·rw[List.getElem?_eq_none_iff.mpr (by simpa using z)] at h1;cases h1
   rw[getElem?_set_self (by rw[← R.rv.len];exact l)] at h2
   cases h2
   exact xq R.bh hp
  ·rw[getElem?_set_ne n1] at h1 h2
   exact R.ob j es a h1 h2,fun j m c fs a h1 h2=>by
  obtain⟨n,h1⟩:=yL (s:=some (.own ds)) rfl rfl h1
  rw[getElem?_set_ne n] at h2
  rw[R.rv.ob.lof (.inl ⟨m,fs,h1⟩) h2 (.inl hp) (R.rv.ob.fresh hp j c a (.inl ⟨m,fs,h1⟩) h2)]
  exact R.oo j m c fs a h1 h2,fun a0 dx b1 b2 j m c fs h=>by
  obtain⟨n,h⟩:=yL (s:=some (.own ds)) rfl rfl h
  rw[getElem?_set_ne n]
  exact R.sf a0 dx b1 b2 j m c fs h,fun j c fs a h1 h2=>by
  obtain⟨n,h1⟩:=yL (s:=some (.own ds)) rfl rfl h1
  rw[getElem?_set_ne n] at h2
  exact R.ro j c fs a h1 h2⟩
theorem YL{i:Nat}{x:Str}{pos':Pos}{ff:FA}(hN:X.N.Nodup)(hi:X.N[i]?=some x)(hx:Loc X.env.scope x)(he:PDF X e ff)(hs:swapsWith e (some (.Name x pos')) pos.line X.env=pure false:=by rfl)(hf:X.fn x=true∨X.env.scope.names.lookup x=some .local:=by first|exact .inl rfl|exact .inr rfl|assumption) :
  PDS X (.Assign [.Name x pos'] e pos) (v4 i ff):=
 PS.imp (WF hN hi hx he hs hf) fun E σ H z_=>by obtain⟨B,Z,F,τ,R,h⟩:=z_;exact⟨F,τ,R.rv,h.of.imp fun ds g p vs F1 H1 x hp r=>g _ F1 _ x.ff ((R.ext x).setO hp r)⟩
theorem RV.own_upd{K:Frag}{F H:Hp}{τ:DS}{σ:St}{i:Nat}{p:Addr}{ds es:List D}{ws:List V}(R:RV K F τ σ H)(h:τ[i]?=some (some (.own ds)))(hp:σ[i]?=some (some (.ref p)))(r:Reps K F es ws) :
  RV K F (τ.set i (some (.own es))) σ (upd H p (.lst ws)):=by
 refine byc fun zG_=>?_
 obtain⟨a,vs,q1,q2,q3,q4⟩:=R.own i ds h
 refine zG_ ?_
 rw[q1] at hp;cases hp
 have l:i<τ.length:=(List.getElem?_eq_some_iff.mp h).1
 refine⟨fun b o e=>?_,by simp[R.len],fun j e h'=>?_,fun j es' h'=>?_,fun j k e1 e2 b hjk h1 h2 h3 h4=>?_,?_,?_⟩
 ·have n:b≠p:=fun z=>by subst z;rw[q3] at e;cases e
  rw[zm n];exact R.fh b o e
 ·by_cases hij:i=j
  ·subst hij;rw[getElem?_set_self l] at h';cases h'
  ·rw[getElem?_set_ne hij] at h';exact R.val j e h'
 ·by_cases hij:i=j
  ·subst hij
   rw[getElem?_set_self l] at h';cases h'
   exact⟨p,ws,q1,zo,q3,r⟩
  ·rw[getElem?_set_ne hij] at h'
   refine byc fun zG_=>?_
   obtain⟨a',vs',z1,z2,z3,z4⟩:=R.own j es' h'
   refine zG_ ?_
   have n:a'≠p:=fun z=>by subst z;exact R.dis i j ds es' a' hij h h' q1 z1
   exact⟨a',vs',z1,by rw[zm n];exact z2,z3,z4⟩
 ·have:∀{m:Nat} {e:List D},(τ.set i (some (.own es)))[m]?=some (some (.own e))→∃e',τ[m]?=some (some (.own e')):=fun {m e} z=>by
   by_cases him:i=m
   ·subst him;exact⟨ds,h⟩
   ·rw[getElem?_set_ne him] at z;exact⟨e,z⟩
  obtain⟨x1,y1⟩:=this h1
  obtain⟨x2,y2⟩:=this h2
  exact R.dis j k x1 x2 b hjk y1 y2 h3 h4
 ·exact R.tt.step (fun _ _ e=>.inl e) (fun b o e n=>by
   have:b≠p:=fun z=>by subst z;rw[q2] at e;cases e;exact n _ rfl
   rw[zm this];exact e) (wq fun _ z=>nomatch z)
 ·exact(R.ob.updL (.inr ⟨vs,q2⟩) fun j c a g1 g2 hl=>R.ob.lo j i c ds a p g1 h g2 q1 hl).putS h
theorem RS.own_upd{K:Frag}{B Z F H:Hp}{τ:DS}{σ:St}{i:Nat}{p:Addr}{ds es:List D}{ws:List V}(R:RS K B Z F τ σ H)(h:τ[i]?=some (some (.own ds)))(hp:σ[i]?=some (some (.ref p)))(r:Reps K F es ws) :
  RS K B Z F (τ.set i (some (.own es))) σ (upd H p (.lst ws)):=by
 have hb:=R.ob i ds p h hp
 refine⟨R.rv.own_upd h hp r,fun b o e=>?_,R.zf,R.nb,fun j e a h1 h2=>?_,fun j m c fs a h1 h2=>?_,fun a0 dx b1 b2 j m c fs h=>R.sf a0 dx b1 b2 j m c fs (yL (s:=some (.own es)) rfl rfl h).2,fun j c fs a h1 h2=>R.ro j c fs a (yL (s:=some (.own es)) rfl rfl h1).2 h2⟩
 ·have n:b≠p:=fun z=>by subst z;rw[hb] at e;cases e
  rw[zm n];exact R.bh b o e
 ·by_cases him:i=j
  ·subst him;exact R.ob i ds a h h2
  ·rw[getElem?_set_ne him] at h1;exact R.ob j e a h1 h2
 ·have h1:=(yL (s:=some (.own es)) rfl rfl h1).2
  refine byc fun zG_=>?_
  obtain⟨p',vs,q1,q2,_⟩:=R.rv.own i ds h
  refine zG_ ?_
  rw[q1] at hp;cases hp
  rw[R.rv.ob.lof (.inl ⟨m,fs,h1⟩) h2 (.inr ⟨vs,q2⟩) fun z=>R.rv.ob.lo j i c ds a _ (.inl ⟨m,fs,h1⟩) h h2 q1 z]
  exact R.oo j m c fs a h1 h2
noncomputable def vI(τ:DS)(i:Nat):Rs (List D):=match τ[i]? with
 | some (some (.own ds))=>.ok ds
 |_=>.no
theorem uV{τ:DS}{i:Nat}{P:List D→Prop}(h:Ok X (vI τ i) P):∃ds,τ[i]?=some (some (.own ds))∧P ds:=by
 unfold vI at h
 cases q:τ[i]? with
 |none=>rw[q] at h;exact h.elim
 |some o=>
  cases o with
  |none=>rw[q] at h;exact h.elim
  |some sl=>
   cases sl with
   |val d=>rw[q] at h;exact h.elim
   |obj n c fs=>rw[q] at h;exact h.elim
   |obr c fs=>rw[q] at h;exact h.elim
   |own ds=>rw[q] at h;exact⟨ds,rfl,h⟩
noncomputable def Xy(i:Nat)(fe:FE):FS:=fun τ=>Fl.of (vI τ i) fun ds=>Fl.of (fe τ) fun d=>if ds.length<sizeLine then .nx (τ.set i (some (.own (ds++[d])))) else .no
theorem WL{i:Nat}{x:Str}{p1 apos cpos:Pos}(hx:PE X (.Name x p1) (yX i))(he:PDE X e fe)
  (hfew:((backTo cpos (starEach [e] X.env)).all (fun x=>!x.1)&&(backToKw cpos (keywordEach [] X.env)).all (fun x=>x.1.isSome)
   && decide ([e].length+([]:List Keyword).length+(if ([]:List Keyword).isEmpty then 0 else 1)<30))=true:=by rfl)
  (hline:(apos.endLine==cpos.line)=true:=by rfl) (hs:starEach [e] X.env=[(false,eval e X.env)]:=by rfl) (hplain:(backTo cpos (starEach [] X.env)).any (·.1)=false:=by rfl)
  (hbase:attributeBase (.Name x p1) "append" X.env (eval (.Name x p1) X.env)=eval (.Name x p1) X.env:=by rfl)
  (hsw:swapsWith (.Call (.Attribute (.Name x p1) "append" apos) [e] [] cpos) none pos.line X.env=pure false:=by rfl) :
  PDS X (.Expr (.Call (.Attribute (.Name x p1) "append" apos) [e] [] cpos) pos) (Xy i fe):=
 PS.imp (ja (Jx PySem.F.plainAttrs_list PySem.F.slot_list_append PySem.F.type_list_append ua hx (xI he wK (by rw[hs];rfl)) hbase hfew hline (by rw[hs];rfl) hplain) hsw) fun E σ H z_=>by
  refine byc fun zG_=>?_
  obtain⟨B,Z,F,τ,R,h⟩:=z_
  obtain⟨ds,h1,h2⟩:=uV (X:=X) (Post.of h)
  obtain⟨a,vs,q1,q2,q3,q4⟩:=R.rv.own i ds h1
  refine zG_ ?_
  refine⟨_,q1,.inl ⟨rfl,vs,SqL.of q2⟩,?_⟩
  refine tE.at R h2.of fun d v F1 H1 g x R1 r=>?_
  by_cases z:ds.length<sizeLine
  ·rw[if_pos z] at g
   refine⟨a,vs,v,rfl,rfl,x.hh _ _ q2,by rw[← q4.length];exact z,?_⟩
   exact g _ F1 _ x.ff (R1.own_upd h1 q1 ((q4.mono x.ff).append (Reps.cons r Reps.nil)))
  ·rw[if_neg z] at g;exact g.elim
noncomputable def Qq(i:Nat)(fi fe:FE):FS:=fun τ=>Fl.of (fe τ) fun d=>Fl.of (vI τ i) fun ds=>Fl.of (fi τ) fun k=>match k with
 |.int k=>match ixN ds.length k with
  |some j=>.nx (τ.set i (some (.own (ds.set j d))))
  |none=>.no
 |_=>.no
theorem TZ{i:Nat}{x:Str}{p1 spos:Pos}{ix:Expr}{fi:FE}(hx:PE X (.Name x p1) (yX i))(hi:PDE X ix fi)(he:PDE X e fe)
  (ha:∀v,assign (.Subscript (.Name x p1) ix spos) X.env v=(do
   let ov ← holding [v] (eval (.Name x p1) X.env)
   let iv ← holding [v,ov] (eval ix X.env)
   standAt spos
   holding [v,ov,iv] (setItem ov iv v)
   release [v,ov,iv] []):=by intro _;rfl)
  (hs:swapsWithSole [.Subscript (.Name x p1) ix spos] e pos.line X.env=pure false:=by rfl) (hw:swappedStores [.Subscript (.Name x p1) ix spos] e X.env=pure none:=by rfl)
  (h1:(assignEach [.Subscript (.Name x p1) ix spos] X.env).map (·.2)=[assign (.Subscript (.Name x p1) ix spos) X.env]:=by rfl) :
  PDS X (.Assign [.Subscript (.Name x p1) ix spos] e pos) (Qq i fi fe):=
 PS.imp (zd1 he (zd5 hx hi Gy ha) hs hw h1) fun E σ H z_=>by
  refine byc fun zG_=>?_
  obtain⟨B,Z,F,τ,R,h⟩:=z_
  refine zG_ ?_
  refine tE.at R h.of fun d v F1 H1 g x R1 r=>?_
  refine byc fun zG_=>?_
  obtain⟨ds,h1,h2⟩:=uV (X:=X) (Post.of g)
  obtain⟨a,vs,q1,q2,q3,q4⟩:=R1.rv.own i ds h1
  refine zG_ ?_
  refine⟨_,q1,?_⟩
  refine tE.at R1 h2.of fun k w F2 H2 g2 x2 R2 r2=>?_
  cases k with
  |int k=>
   simp only[Rep] at r2
   simp only at g2
   cases q:ixN ds.length k with
   |none=>rw[q] at g2;exact g2.elim
   |some j=>
    rw[q] at g2
    refine⟨a,vs,k,j,rfl,r2,x2.hh _ _ q2,by rw[← q4.length];exact q,?_⟩
    exact g2 _ F2 _ (x.ff.trans x2.ff) (R2.own_upd h1 q1 (Reps.set (r.mono x2.ff) j (q4.mono x2.ff)))
  |_=>exact g2.elim
noncomputable def uD(i:Nat):FS:=fun τ=>Fl.of (vI τ i) fun ds=>.rt (.lst ds)
theorem jZ{i:Nat}{x:Str}{p1:Pos}(hx:PE X (.Name x p1) (yX i)):PDS X (.Return (some (.Name x p1)) pos) (uD i):=
 PS.imp (WG hx) fun E σ H z_=>by
  refine byc fun zG_=>?_
  obtain⟨B,Z,F,τ,R,h⟩:=z_
  obtain⟨ds,h1,h2⟩:=uV (X:=X) (Post.of h)
  obtain⟨a,vs,q1,q2,q3,q4⟩:=R.rv.own i ds h1
  refine zG_ ?_
  have hb:=R.ob i ds a h1 q1
  refine⟨_,q1,h2 (.ref a) (upd F a (.lst vs)) H ⟨?_,R.bh,fun b o e=>?_,fun b o e=>?_,fun _=>R.rv.tt.freeze q2⟩ ?_⟩
  ·exact R.zf.trans (yt q3)
  ·by_cases z:b=a
   ·subst z;rw[zo] at e;cases e;exact q2
   ·rw[zm z] at e;exact R.rv.fh b o e
  ·by_cases z:b=a
   ·subst z;exact .inr hb
   ·rw[zm z] at e;exact R.nb b o e
  ·simp only[Rep]
   exact⟨a,vs,rfl,zo,q4.mono (yt q3)⟩
noncomputable def Gb(i:Nat)(fi:FE):FE:=fun τ=>(vI τ i).bind fun ds=>(fi τ).bind fun k=>match k with
 |.int k=>match atI ds k with
  |some d=>.ok d
  |none=>.no
 |_=>.no
theorem Zs{K:Frag}{F:Hp}{ds:List D}{vs:List V}{k:Int}{d:D}(r:Reps K F ds vs)(h:atI ds k=some d):∃v,atI vs k=some v∧Rep K F d v:=by
 unfold atI at h ⊢
 rw[← r.length]
 cases q:ixN ds.length k with
 |none=>rw[q] at h;cases h
 |some j=>
  rw[q] at h
  exact r.get h
theorem T6{i:Nat}{x:Str}{p1:Pos}{ix:Expr}{fi:FE}(hx:PE X (.Name x p1) (yX i))(hi:PDE X ix fi)(hs:vo ix:=by intro _ _;rfl):PDE X (.Subscript (.Name x p1) ix pos) (Gb i fi):=
 PE.imp (ZU ix_list hx hi hs) fun σ H Q z_=>by
  refine byc fun zG_=>?_
  obtain⟨F,τ,R,h⟩:=z_
  obtain⟨ds,h1,h2⟩:=uV (X:=X) (Ok.bind h)
  obtain⟨a,vs,q1,q2,q3,q4⟩:=R.own i ds h1
  refine zG_ ?_
  refine⟨_,q1,?_⟩
  refine tE.of R h2.bind fun k w F2 H2 g2 x2 R2 r2=>?_
  cases k with
  |int k=>
   simp only[Rep] at r2
   simp only at g2
   cases q:atI ds k with
   |none=>rw[q] at g2;exact g2.elim
   |some d=>
    rw[q] at g2
    obtain⟨v,z1,z2⟩:=Zs q4 q
    exact⟨a,vs,k,v,rfl,r2,SqL.of (x2.hh _ _ q2),z1,g2 v F2 H2 x2 (z2.mono x2.ff)⟩
  |_=>exact g2.elim
noncomputable def Zl(i:Nat):FE:=fun τ=>(vI τ i).bind fun ds=>.ok (.int ds.length)
theorem YO{i:Nat}{x:Str}{p1 p:Pos}(hx:PE X (.Name x p1) (yX i))(hg:Gl X "len")(hm:X.mg "len" = none)
  (he:starEach [.Name x p1] X.env=[(false,eval (.Name x p1) X.env)]:=by rfl) (hpl:(backTo pos (starEach [] X.env)).any (·.1)=false:=by rfl):PDE X (.Call (.Name "len" p) [.Name x p1] [] pos) (Zl i):=
 PE.imp (pe_callB call_len_seq hg hm PySem.boot_len (xI hx wK (by rw[he];rfl)) (he:=by rw[he];rfl) (hpl:=hpl)) fun σ H Q z_=>by
  refine byc fun zG_=>?_
  obtain⟨F,τ,R,h⟩:=z_
  obtain⟨ds,h1,h2⟩:=uV (X:=X) (Ok.bind h)
  obtain⟨a,vs,q1,q2,q3,q4⟩:=R.own i ds h1
  refine zG_ ?_
  refine⟨_,q1,a,vs,rfl,.inl (SqL.of q2),?_⟩
  rw[← q4.length]
  exact h2 (.int ds.length) F H (Ext.refl R.fh) (by simp only[Rep])
end
noncomputable def Ja(K:Frag)(J:It)(F1:Hp)(ds:List D):Prop:=∀(i:Nat) (F H:Hp),Same F1 F→Same F H →
 (ds.length≤i→J.stop i H)∧∀d,ds[i]?=some d→J.go i H∧∀x H',J.yld i H x H'→∃F',Ext F H F' H'∧Rep K F' d x
noncomputable def tI(X:Cx)(f:FA):TI:=fun σ H R=>∃F τ,RV X.K F τ σ H∧Ok X (f τ) fun ds=>∀J F1 H1,Ext F H F1 H1→Ja X.K J F1 ds→R J H1
noncomputable def PDI(X:Cx)(tg iter:Expr)(f:FA):Prop:=PI X tg iter (tI X f)
theorem _root_.L2.PI.imp{X:Cx}{tg e:Expr}{t t':TI}(h:PI X tg e t)(f:∀σ H Q,t' σ H Q→t σ H Q):PI X tg e t':=fun pins s σ H Q I q=>h pins s σ H Q I (f _ _ _ q)
section
variable{X:Cx}{pos:Pos}{e tg:Expr}{es:List Expr}{fe:FE}{fs:FA}
theorem JS{K:Frag}{a:Addr}{F1:Hp}{ds:List D}{vs:List V}(e:SqL K F1 a vs)(r:Reps K F1 ds vs):Ja K (Itl K a) F1 ds:=fun i F H f1 f2=>by
 have q:SqL K H a vs:=(f1.trans f2).seq e
 refine⟨fun h=>⟨vs,q,by rw[← r.length];exact h⟩,fun d hd=>?_⟩
 obtain⟨v,h1,h2⟩:=r.get hd
 refine⟨⟨vs,v,q,h1⟩,fun x H' y=>?_⟩
 obtain⟨e1,y⟩:=y
 subst e1
 have h3:=y vs q
 rw[h1] at h3;cases h3
 exact⟨F,Ext.refl f2,h2.mono f1⟩
theorem zi0{K:Frag}{a:Addr}{F1:Hp}{ds:List D}{vs:List V}(e:SqT K F1 a vs)(r:Reps K F1 ds vs):Ja K (Itt K a) F1 ds:=fun i F H f1 f2=>by
 have q:SqT K H a vs:=Same.seqT (f1.trans f2) e
 refine⟨fun h=>⟨vs,q,by rw[← r.length];exact h⟩,fun d hd=>?_⟩
 obtain⟨v,h1,h2⟩:=r.get hd
 refine⟨⟨vs,v,q,h1⟩,fun x H' y=>?_⟩
 obtain⟨e1,y⟩:=y
 subst e1
 have h3:=y vs q
 rw[h1] at h3;cases h3
 exact⟨F,Ext.refl f2,h2.mono f1⟩
noncomputable def uK(lo:Int)(n:Nat):List D:=(List.range n).map fun (k:Nat)=>D.int (lo+k)
theorem MM{K:Frag}{F1:Hp}{lo:Int}{n:Nat}:Ja K (Itr lo n) F1 (uK lo n):=fun i F H f1 f2=>by
 have hl:(uK lo n).length=n:=by simp[uK]
 refine⟨fun h=>by rw[hl] at h;exact h,fun d hd=>?_⟩
 have hi:i<n:=by have:=(List.getElem?_eq_some_iff.mp hd).1;rw[hl] at this;exact this
 refine⟨hi,fun x H' y=>?_⟩
 obtain⟨e1,y⟩:=y
 subst e1
 refine⟨F,Ext.refl f2,?_⟩
 simp[uK,hi] at hd
 subst hd
 simp only[Rep];exact y
noncomputable def UW:List D→Option Int
 |[.int j]=>some j
 |_=>none
noncomputable def XM:List D→Option (Int×Int)
 |[.int i,.int j]=>some (i,j)
 |_=>none
noncomputable def JC:D→Option (D×D)
 |.tup [x,y]=>some (x,y)
 |_=>none
theorem JU{ds:List D}{j:Int}(h:UW ds=some j):ds=[.int j]:=by
 unfold UW at h;split at h <;> cases h;rfl
theorem W0{ds:List D}{i j:Int}(h:XM ds=some (i,j)):ds=[.int i,.int j]:=by
 unfold XM at h;split at h <;> cases h;rfl
theorem G5{d x y:D}(h:JC d=some (x,y)):d=.tup [x,y]:=by
 unfold JC at h;split at h <;> cases h;rfl
noncomputable def vB(fs:FA):FA:=fun τ=>(fs τ).bind fun ds=>match UW ds with
 |some j=>if -(2 ^ 62)≤j∧j<2 ^ 62 then .ok (uK 0 j.toNat) else .no
 |none=>.no
theorem wB{a:Expr}{p:Pos}(hg:Gl X "range")(hm:X.mg "range" = none)(ha:PDA X [a] fs)(hs:starEach [a] X.env=[(false,eval a X.env)]:=by rfl):PDI X tg (.Call (.Name "range" p) [a] [] pos) (vB fs):=
 PI.imp (Qu hg hm ha hs) fun σ H R z_=>by
  refine byc fun zG_=>?_
  obtain⟨F,τ,Rv,h⟩:=z_
  refine zG_ ?_
  refine tAs.of Rv h.bind fun ds vs F1 H1 g x R1 r=>?_
  cases q1:UW ds with
  |none=>rw[q1] at g;exact g.elim
  |some j=>
   rw[q1] at g
   have e:=JU q1
   subst e
   obtain⟨v,rfl,q⟩:=r.one
   simp only[Rep] at q;subst q
   obtain⟨z,g⟩:=yE g
   exact⟨j,rfl,z.1,z.2,g _ F1 H1 x MM⟩
noncomputable def Q5(fs:FA):FA:=fun τ=>(fs τ).bind fun ds=>match XM ds with
 | some (i,j)=>if (-(2 ^ 62)≤i∧i<2 ^ 62)∧-(2 ^ 62)≤j∧j<2 ^ 62 then .ok (uK i (j-i).toNat) else .no
 |none=>.no
theorem UC{a b:Expr}{p:Pos}(hg:Gl X "range")(hm:X.mg "range" = none)(ha:PDA X [a,b] fs)(hs:starEach [a,b] X.env=[(false,eval a X.env),(false,eval b X.env)]:=by rfl)(hs2:starEach [b] X.env=[(false,eval b X.env)]:=by rfl) :
  PDI X tg (.Call (.Name "range" p) [a,b] [] pos) (Q5 fs):=
 PI.imp (Qt hg hm ha hs hs2) fun σ H R z_=>by
  refine byc fun zG_=>?_
  obtain⟨F,τ,Rv,h⟩:=z_
  refine zG_ ?_
  refine tAs.of Rv h.bind fun ds vs F1 H1 g x R1 r=>?_
  cases q1:XM ds with
  |none=>rw[q1] at g;exact g.elim
  |some ij=>
   refine byc fun zG_=>?_
   obtain⟨i,j⟩:=ij
   rw[q1] at g
   have e:=W0 q1
   subst e
   obtain⟨v,w,rfl,q,q'⟩:=r.two
   refine zG_ ?_
   simp only[Rep] at q q';subst q;subst q'
   obtain⟨z,g⟩:=yE g
   exact⟨i,j,rfl,⟨z.1.1,z.1.2,z.2.1,z.2.2⟩,g _ F1 H1 x MM⟩
noncomputable abbrev FG:=D→DS→Rs DS
noncomputable def tG(X:Cx)(set:FG):TG:=fun v σ H Q=>∃F τ d,RV X.K F τ σ H∧Rep X.K F d v∧Ok X (set d τ) fun τ'=>∀σ',RV X.K F τ' σ' H→(∀B Z,RS X.K B Z F τ σ H→RS X.K B Z F τ' σ' H)→σ'.length=σ.length→Q σ' H
noncomputable def PDG(X:Cx)(tg:Expr)(set:FG):Prop:=PG X tg (tG X set)
theorem _root_.L2.PG.imp{X:Cx}{e:Expr}{t t':TG}(h:PG X e t)(f:∀v σ H Q,t' v σ H Q→t v σ H Q):PG X e t':=fun pins s σ H v u Q I r q=>h pins s σ H v u Q I r (f _ _ _ _ q)
noncomputable def gNm(i:Nat):FG:=fun d τ=>.ok (τ.set i (some (.val d)))
theorem xb{i:Nat}{x:Str}(hN:X.N.Nodup)(hi:X.N[i]?=some x)(hx:Loc X.env.scope x)(hf:X.fn x=true∨X.env.scope.names.lookup x=some .local:=by first|exact .inl rfl|exact .inr rfl|assumption):PDG X (.Name x pos) (gNm i):=
 PG.imp (Yk hN hi hx hf) fun v σ H Q z_=>by obtain⟨F,τ,d,R,r,h⟩:=z_;exact h _ (R.set r) (fun B Z R'=>R'.set r) (by simp)
noncomputable def gPr(i j:Nat):FG:=fun d τ=>match JC d with
 | some (x,y)=>.ok ((τ.set i (some (.val x))).set j (some (.val y)))
 |none=>.no
theorem G1{i j k:Nat}{x y:Str}{px py:Pos}(hc:X.calm=true)(hN:X.N.Nodup)(hi:X.N[i]?=some x)(hx:Loc X.env.scope x)(hj:X.N[j]?=some y)(hy:Loc X.env.scope y)
  (hf:X.fn x=true∨X.env.scope.names.lookup x=some .local:=by first|exact .inl rfl|exact .inr rfl|assumption) (hf':X.fn y=true∨X.env.scope.names.lookup y=some .local:=by first|exact .inl rfl|exact .inr rfl|assumption) :
  PDG X (.Tuple [.Name x px,.Name y py] k pos) (gPr i j):=
 PG.imp (zd4 (n:=2) hc (Vw (Yk hN hi hx hf) (Vw (Yk hN hj hy hf') TV))) fun v σ H Q z_=>by
  refine byc fun zG_=>?_
  obtain⟨F,τ,d,R,r,h⟩:=z_
  refine zG_ ?_
  unfold gPr at h
  cases q1:JC d with
  |none=>rw[q1] at h;exact h.elim
  |some xy=>
   refine byc fun zG_=>?_
   obtain⟨x,y⟩:=xy
   rw[q1] at h
   have e:=G5 q1
   subst e
   simp only[Rep] at r
   obtain⟨a,vs,rfl,q,t⟩:=r
   obtain⟨v1,v2,rfl,r1,r2⟩:=t.two
   refine zG_ ?_
   exact⟨a,_,rfl,Same.seqT R.fh q,rfl,v1,[v2],rfl,v2,[],rfl,rfl,h _ ((R.set r1).set r2) (fun B Z R'=>(R'.set r1).set r2) (by simp)⟩
noncomputable def yS(set:FG)(body:FS):List D→DS→Fl
 |[],τ=>.nx τ
 |d::r,τ=>Fl.of (set d τ) fun τ1=>match body τ1 with
  |.nx τ'=>yS set body r τ'
  |.ct τ'=>yS set body r τ'
  |.bk τ'=>.nx τ'
  |.rt d=>.rt d
  |.ro d τ'=>.ro d τ'
  |.rb d τ'=>.rb d τ'
  |.ex c=>.ex c
  |.no=>.no
  |.rs c τ'=>.rs c τ'
noncomputable def ug(fi:FA)(set:FG)(body:FS):FS:=fun τ=>Fl.of (fi τ) fun ds=>yS set body ds τ
theorem vh{iter:Expr}{body:List Stmt}{fi:FA}{set:FG}{fb:FS}(hp:PassesOwn (model X.prog X.w) X.A X.env X.xe)(hc:X.calm=true)(hi:PDI X tg iter fi)(hg:PDG X tg set)(hb:vC X body fb)
  (hs:∀x,foldedSetIterable iter X.env x=pure x:=by intro _;rfl):PDS X (.For tg iter body [] pos) (ug fi set fb):=
 PS.imp (zd0 hp hc hi hg hb hs) fun E σ H z_=>by
  refine byc fun zG_=>?_
  obtain⟨B,Z,F,τ,R,h⟩:=z_
  refine zG_ ?_
  refine⟨F,τ,R.rv,h.of.imp fun ds g J F1 H1 x io=>?_⟩
  refine⟨fun i m σ H=>m=ds.length-i∧i≤ds.length∧∃F' τ',Same F1 F'∧RS X.K B Z F' τ' σ H∧Post X B Z F' E (yS set fb (ds.drop i) τ'),⟨ds.length,by simp,zero_le _,F1,τ,Same.refl _,R.ext x,g.same x.ff⟩,?_⟩
  rintro i m σ2 H2 ⟨rfl,hi,F2,τ2,f2,R2,p2⟩
  obtain⟨i1,i2⟩:=io i F2 H2 f2 R2.rv.fh
  by_cases hlt:i<ds.length
  ·have hd:ds.drop i=ds[i]::ds.drop (i+1):=drop_eq_getElem_cons hlt
   rw[hd] at p2
   obtain⟨go,yl⟩:=i2 ds[i] (by simp[hlt])
   refine .inr ⟨go,fun σ' H'=>∃F' τ',Same F2 F'∧RS X.K B Z F' τ' σ' H'∧Post X B Z F' E (yS set fb (ds.drop (i+1)) τ'),fun σ' H' ⟨F',τ',a,b,c⟩=>⟨ds.length-(i+1),by lia,rfl,hlt,F',τ',f2.trans a,b,c⟩,fun y H' yy=>?_⟩
   obtain⟨F3,x3,r3⟩:=yl y H' yy
   have R3:=R2.ext x3
   refine⟨F3,τ2,ds[i],R3.rv,r3,(Post.of p2).imp fun τ4 p4 σ4 _ R4 _=>⟨B,Z,F3,τ4,R4 B Z R3,?_⟩⟩
   cases q:fb τ4 with
   |nx τ5=>rw[q] at p4;exact fun σ' F' H' ff RR=>⟨F',τ5,x3.ff.trans ff,RR,Post.same p4 (x3.ff.trans ff)⟩
   |ct τ5=>rw[q] at p4;exact fun σ' F' H' ff RR=>⟨F',τ5,x3.ff.trans ff,RR,Post.same p4 (x3.ff.trans ff)⟩
   |bk τ5=>rw[q] at p4;exact fun σ' F' H' ff RR=>p4 σ' F' H' (x3.ff.trans ff) RR
   |rt d=>rw[q] at p4;exact p4
   |ro d τ'=>rw[q] at p4;exact fun v σ' F' H' ff RR rr=>p4 v σ' F' H' (x3.ff.trans ff) RR rr
   |rb d τ'=>rw[q] at p4;exact fun v σ' F' H' ff RR rr=>p4 v σ' F' H' (x3.ff.trans ff) RR rr
   |ex c=>rw[q] at p4;exact p4
   |no=>rw[q] at p4;exact p4
   |rs c τ5=>rw[q] at p4;exact fun σ' F' H' ff RR=>p4 σ' F' H' (x3.ff.trans ff) RR
  ·have e:i=ds.length:=by lia
   subst e
   rw[drop_length] at p2
   exact .inl ⟨i1 (le_refl _),p2 σ2 F2 H2 (Same.refl _) R2⟩
end
noncomputable def UN(r:Rs D):Rs D:=match r with
 |.ok d=>.ok d
 |_=>.no
noncomputable def spD(K:Frag)(n:Nat)(g:List D→Rs D):Sp:=fun vs H Q E=>vs.length=n∧∃ds F,Same F H∧TbT F H∧Reps K F ds vs∧match g ds with
 |.ok d=>Ev K F H Q d
 |_=>False
noncomputable def zX(N:Nat)(ds:List D):DS:=ds.map (fun d=>some (.val d))++List.replicate (N-ds.length) none
noncomputable def Z2:Fl→Rs D
 |.rt d=>.ok d
 |.ro d _=>.ok d
 |.nx _=>.ok .non
 |.rs c _=>.ex c
 |_=>.no
noncomputable def wu(N:Nat)(fb:FS)(ds:List D):Rs D:=Z2 (fb (zX N ds))
theorem YE{K:Frag}{F H:Hp}{N:List Str}{ds:List D}{vs:List V}(fh:Same F H)(tt:TbT F H)(r:Reps K F ds vs):RS K H F F (zX N.length ds) (L2.start N vs) H:=by
 have hl:=r.length
 have hval:∀(i:Nat) (o:Sl),(zX N.length ds)[i]?=some (some o)→∃d,ds[i]?=some d∧o=.val d:=fun i o h=>by
  unfold zX at h
  by_cases hi:i<ds.length
  ·rw[getElem?_append_left (by simpa using hi),getElem?_map] at h
   cases e:ds[i]? with
   |none=>rw[e] at h;cases h
   |some d=>rw[e] at h;cases h;exact⟨d,rfl,rfl⟩
  ·rw[getElem?_append_right (by simpa using hi),getElem?_replicate] at h
   split at h <;> cases h
 refine⟨⟨fh,?_,fun i d h=>?_,fun i es h=>?_,fun i j es es' a _ h1 _ _ _=>?_,tt,ObsOk.none fun i s h=>?_⟩,Hh.refl H,Same.refl F,fun a o e=>.inl e,fun i es a h1 _=>?_,fun i m c fs a h1 _=>?_,fun a0 dx _ _ j m c fs h1=>?_,fun j c fs a h1 _=>?_⟩
 ·simp[zX,L2.start,hl]
 ·obtain⟨d',h1,h2⟩:=hval i _ h
  cases h2
  obtain⟨v,q1,q2⟩:=r.get h1
  refine⟨v,?_,q2⟩
  have hi:i<vs.length:=(List.getElem?_eq_some_iff.mp q1).1
  unfold L2.start
  rw[getElem?_append_left (by simpa using hi),getElem?_map,q1];rfl
 ·obtain⟨_,_,h2⟩:=hval i _ h;cases h2
 ·obtain⟨_,_,h2⟩:=hval i _ h1;cases h2
 ·cases s with
  |none=>rfl
  |some o=>obtain⟨_,_,h2⟩:=hval i _ h;rw[h2];rfl
 ·obtain⟨_,_,h2⟩:=hval i _ h1;cases h2
 ·obtain⟨_,_,h2⟩:=hval i _ h1;cases h2
 ·obtain⟨_,_,h2⟩:=hval j _ h1;cases h2
 ·obtain⟨_,_,h2⟩:=hval j _ h1;cases h2
section
variable{P:Program}{w:World}{K:Frag}{mg:Str→Option Value}{base:Heap}
theorem fnD{x qual:Str}{st:Stmt}{f:Addr}{fd:FuncData}{N ps:List Str}{k n:Nat}{fb:FS}(F:Fun K x qual st f fd)(S:zD N ps (zh st))(hn:ps.length=n)
  (hbody:∀(cdv:Value) (A:Around) (outer:List Env) (s:Shared) (H:Hp) (E:XK),Room k (A.deeper (envOfC qual (zh st) s.heap.objs.size f cdv)) →
   vC (jo CX0 P w K mg base N qual (zh st) f cdv A outer s H E).nox (zw st) fb):FnOk P w K mg base CX0 (k+1) f fd ps (spD K n (wu N.length fb)):=by
 refine F.ok S (fun vs H Q E h=>by rw[hn];exact h.1) fun cdv A outer s H vs Q E hr h=>⟨_,hbody cdv A outer s H E hr,?_⟩
 refine byc fun zG_=>?_
 obtain⟨hl,ds,Fz,fh,tt,r,h⟩:=h
 refine zG_ ?_
 refine⟨H,Fz,Fz,zX N.length ds,YE fh tt r,?_⟩
 unfold wu at h
 cases q:fb (zX N.length ds) with
 |nx τ=>rw[q] at h;exact fun σ F' H' ff RR=>h .non F' H' RR.out (by simp only[Rep])
 |rt d=>rw[q] at h;exact fun v F' H' x rr=>h v F' H' x rr
 |ro d τ=>rw[q] at h;exact fun v σ F' H' ff RR rr=>h v F' H' RR.out rr
 |rb d τ=>rw[q] at h;exact h.elim
 |bk τ=>rw[q] at h;exact h.elim
 |ct τ=>rw[q] at h;exact h.elim
 |ex c=>rw[q] at h;exact h.elim
 |no=>rw[q] at h;exact h.elim
 |rs c τ=>rw[q] at h;exact h.elim
theorem FnD.to{CX:CXT}{f:Addr}{fd:FuncData}{ps:List Str}{k n:Nat}{g g':List D→Rs D}(F:FnOk P w K mg base CX k f fd ps (spD K n g))(h:∀ds d,ds.length=n→g' ds=.ok d→g ds=.ok d):FnOk P w K mg base CX k f fd ps (spD K n g'):=
 F.imp fun vs H Q E ⟨hl,ds,Fz,fh,tt,r,q⟩=>⟨hl,ds,Fz,fh,tt,r,by
  cases e:g' ds with
  |ok d=>rw[e] at q;rw[h ds d (by rw[r.length];exact hl) e];exact q
  |ex c=>rw[e] at q;exact q.elim
  |no=>rw[e] at q;exact q.elim⟩
end
section
variable{X:Cx}{pos:Pos}{e tg:Expr}{es:List Expr}{fe:FE}{fs:FA}
noncomputable def zv(g:List D→Rs D)(fs:FA):FE:=fun τ=>(fs τ).bind fun ds=>UN (g ds)
theorem G4{k n:Nat}{f:Addr}{fd:FuncData}{ps:List Str}{g:List D→Rs D}{x:Str}{p:Pos}(F:FnOk X.prog X.w X.K X.mg X.base CX0 k f fd ps (spD X.K n g))(hr:Room k X.A)(hg:Gl X x)(hm:X.mg x=some (.ref f))(hk:keepIn X.K (.ref f)=true)(hb:Binds X.K fd ps [])
  (ha:PDA X (e::es) fs) (hn:(e::es).length=n) (hfs:∀τ ds,fs τ=.ok ds→ds.length=(e::es).length) (hdb:(x==("__debug__" : Str))=false:=by decide) (he:starEach (e::es) X.env=(false,eval e X.env)::starEach es X.env:=by rfl) (hpl:(backTo pos (starEach es X.env)).any (·.1)=false:=by rfl) :
  PDE X (.Call (.Name x p) (e::es) [] pos) (zv g fs):=
 PE.imp (Yl F hr hg hm hk hb .nil (E:=E0) j1 ha hdb he hpl) fun σ H Q z_=>by
  refine byc fun zG_=>?_
  obtain⟨Fz,τ,R,h⟩:=z_
  refine zG_ ?_
  have hb:=h.bind
  refine⟨Fz,τ,R,?_⟩
  cases q:fs τ with
  |no=>rw[q] at hb;exact hb
  |ex c=>rw[q] at hb;exact hb
  |ok ds=>
   rw[q] at hb
   intro vs F1 H1 x r
   rw[append_nil]
   refine⟨by rw[← r.length,hfs τ ds q,hn],ds,F1,x.fh,x.tt R.tt,r,?_⟩
   have hb:Ok X (UN (g ds)) (Ev X.K Fz H Q):=hb
   cases z:g ds with
   |ok d=>rw[z] at hb;exact Ev.ext hb x
   |ex c=>rw[z] at hb;exact hb.elim
   |no=>rw[z] at hb;exact hb.elim
theorem zt(τ:DS)(ds:List D)(h:zi τ=.ok ds):ds.length=0:=by cases h;rfl
theorem zg{f:FE}{g:FA}{n:Nat}(hg:∀τ ds,g τ=.ok ds→ds.length=n)(τ:DS)(ds:List D)(h:za f g τ=.ok ds):ds.length=n+1:=by
 unfold za at h
 cases q:f τ with
 |no=>rw[q] at h;cases h
 |ex c=>rw[q] at h;cases h
 |ok d=>
  rw[q] at h
  cases q2:g τ with
  |no=>rw[q2] at h;cases h
  |ex c=>rw[q2] at h;cases h
  |ok r=>rw[q2] at h;cases h;simp[hg τ r q2]
noncomputable def Qd(X:Cx)(f:Value)(g:List D→Rs D):Prop:=∃r,CallR X f r∧∀F H vs ds Q,Same F H→Reps X.K F ds vs→Ok X (g ds) (Ev X.K F H Q)→r vs H Q
noncomputable def yo(g:List D→Rs D)(fs:FA):FE:=fun τ=>(fs τ).bind g
theorem zJ{id:String}{x:Str}{p:Pos}{g:List D→Rs D}(hc:Qd X (.builtin id) g)(hg:Gl X x)(hm:X.mg x=none)(hv:bootBuiltins x=some (.builtin id))(ha:PDA X (e::es) fs)(hn:x ≠ "__name__" := by decide)(hdb:(x==("__debug__" : Str))=false:=by decide)
  (he:starEach (e::es) X.env=(false,eval e X.env)::starEach es X.env:=by rfl) (hpl:(backTo pos (starEach es X.env)).any (·.1)=false:=by rfl):PDE X (.Call (.Name x p) (e::es) [] pos) (yo g fs):=by
 obtain⟨r,h1,h2⟩:=hc
 exact PE.imp (L2.pe_callB h1 hg hm hv ha hn hdb he hpl) fun σ H Q z_=>by obtain⟨Fz,τ,R,h⟩:=z_;exact tAs.of R h.bind fun ds vs F1 H1 q x R1 rr=>h2 F1 H1 vs ds Q R1.fh rr (q.imp fun d e=>e.ext x)
noncomputable def IxD(X:Cx)(op:D→D→Rs D):Prop:=∃r:R2,IxR X r∧∀F H x y dx dy Q,Same F H→Rep X.K F dx x→Rep X.K F dy y→Ok X (op dx dy) (Ev X.K F H Q)→r x y H Q
theorem yb{a b:Expr}{fa fb:FE}{op:D→D→Rs D}(hr:IxD X op)(ha:PDE X a fa)(hb:PDE X b fb)(hs:vo b:=by intro _ _;rfl):PDE X (.Subscript a b pos) (eOp op fa fb):=by
 obtain⟨r,h1,h2⟩:=hr
 exact PE.imp (ZU h1 ha hb hs) (JE h2)
noncomputable def ixD:D→D→Rs D
 |.lst ds,.int k=>match atI ds k with
  |some d=>.ok d
  |none=>.no
 |.tup ds,.int k=>match atI ds k with
  |some d=>.ok d
  |none=>.no
 |.scr ns,.int k=>match atI ns k with
  |some d=>.ok (.int d)
  |none=>.no
 |.str x,.int k=>match atI x.cps.toList k with
  |some c=>if x.length≤sizeLine then .ok (.str ⟨#[c]⟩) else .no
  |none=>.no
 |_,_=>.no
theorem LX{α β:Type}{f:α→β}{xs:List α}{k:Int}{a:α}(h:atI xs k=some a):atI (xs.map f) k=some (f a):=by
 unfold atI at h ⊢
 rw[length_map]
 cases q:ixN xs.length k with
 |none=>rw[q] at h;cases h
 |some j=>
  rw[q] at h
  have h:xs[j]?=some a:=h
  show(xs.map f)[j]?=_
  rw[getElem?_map,h];rfl
theorem yJ:IxD X ixD:=⟨_,zh9,fun F H x y dx dy Q fh r1 r2 h=>by
 cases dx with
 |lst ds=>
  cases dy with
  |int k=>
   simp only[Rep] at r1 r2;obtain⟨a,vs,rfl,q,t⟩:=r1;subst r2
   (delta ixD at h;dsimp only at h)
   cases z:atI ds k with
   |none=>rw[z] at h;exact h.elim
   |some d=>
    rw[z] at h
    obtain⟨v,z1,z2⟩:=Zs t z
    exact .inl ⟨a,vs,k,v,rfl,rfl,SqL.of (fh _ _ q),z1,h v F H (Ext.refl fh) z2⟩
  |_=>exact h.elim
 |tup ds=>
  cases dy with
  |int k=>
   simp only[Rep] at r1 r2;obtain⟨a,vs,rfl,q,t⟩:=r1;subst r2
   (delta ixD at h;dsimp only at h)
   cases z:atI ds k with
   |none=>rw[z] at h;exact h.elim
   |some d=>
    rw[z] at h
    obtain⟨v,z1,z2⟩:=Zs t z
    exact .inr (.inl ⟨a,vs,k,v,rfl,rfl,Same.seqT fh q,z1,h v F H (Ext.refl fh) z2⟩)
  |_=>exact h.elim
 |scr ns=>
  cases dy with
  |int k=>
   simp only[Rep] at r1 r2;obtain⟨a,rfl,q⟩:=r1;subst r2
   (delta ixD at h;dsimp only at h)
   cases z:atI ns k with
   |none=>rw[z] at h;exact h.elim
   |some d=>
    rw[z] at h
    exact .inl ⟨a,_,k,.int d,rfl,rfl,fh.seq q,LX z,h (.int d) F H (Ext.refl fh) (by simp only[Rep])⟩
  |_=>exact h.elim
 |str x=>
  cases dy with
  |int k=>
   simp only[Rep] at r1 r2;subst r1;subst r2
   (delta ixD at h;dsimp only at h)
   cases z:atI x.cps.toList k with
   |none=>rw[z] at h;exact h.elim
   |some c=>
    rw[z] at h
    obtain⟨z2,h⟩:=yE h
    exact .inr (.inr ⟨x,k,c,rfl,rfl,z2,z,h _ F H (Ext.refl fh) (by simp only[Rep])⟩)
  |_=>exact h.elim
 |_=>cases dy <;> exact h.elim⟩
end
mutual
noncomputable def xX:D→PyData
 |.non=>.none
 |.bl b=>.bool b
 |.int i=>.int i
 |.str x=>.str x
 |.lst ds=>.list (toPys ds)
 |.tup ds=>.tuple (toPys ds)
 |.scr ns=>.list (ns.map .int)
 |.raw _=>.none
 |.exc _=>.none
 |.dct _ _=>.none
noncomputable def toPys:List D→List PyData
 |[]=>[]
 |d::r=>xX d::toPys r
end
mutual
noncomputable def wa:D→Bool
 |.lst ds=>plainDs ds
 |.tup ds=>plainDs ds
 |.raw _=>false
 |.exc _=>false
 |.dct _ _=>false
 |_=>true
noncomputable def plainDs:List D→Bool
 |[]=>true
 |d::r=>wa d&&plainDs r
end
theorem readsAll_ints{h:Heap}:∀{ns:List Int} {us:List Value},Vals (ns.map V.int) us→ReadsAll h us (ns.map .int) []
 |[],_,.nil=>.nil
 |n::ns,_,.cons r t=>by
  obtain⟨tk,rfl⟩:=r
  exact .cons (as:=[]) (bs:=[]) (.int n tk) (readsAll_ints t)
section
variable{X:Cx}{pins:List (Addr×Obj)}{σ:St}{F H:Hp}{s:Shared}
mutual
theorem wJ(I:Inv X pins σ H s)(fh:Same F H):∀(d:D) {v:V} {u:Value},Rep X.K F d v→RelV v u→wa d=true→∃as,Reads s.heap u (xX d) as
 |.non,v,u,r,rv,_=>by simp only[Rep] at r;subst r;cases rv;exact⟨[],.none⟩
 |.bl b,v,u,r,rv,_=>by simp only[Rep] at r;subst r;cases rv;exact⟨[],.bool b⟩
 |.int i,v,u,r,rv,_=>by simp only[Rep] at r;subst r;obtain⟨t,rfl⟩:=rv;exact⟨[],.int i t⟩
 |.str x,v,u,r,rv,_=>by simp only[Rep] at r;subst r;obtain⟨t,rfl⟩:=rv;exact⟨[],.str x t⟩
 |.lst ds,v,u,r,rv,hp=>by
  simp only[Rep] at r;obtain⟨a,vs,rfl,q,t⟩:=r
  cases rv
  refine byc fun zG_=>?_
  obtain⟨its,rr,⟨o,n,e,c,_,dd⟩,_⟩:=I.list (SqL.of (K:=X.K) (fh _ _ q))
  obtain⟨as,ra⟩:=readss_of I fh ds t rr (by simpa only[wa] using hp)
  refine zG_ ?_
  exact⟨a::as,by rw[xX];exact .list e c dd (by simpa using ra)⟩
 |.tup ds,v,u,r,rv,hp=>by
  simp only[Rep] at r;obtain⟨a,vs,rfl,q,t⟩:=r
  cases rv
  refine byc fun zG_=>?_
  obtain⟨its,rr,⟨o,e,c,n,dd⟩,_⟩:=I.tuple (Same.seqT fh q)
  obtain⟨as,ra⟩:=readss_of I fh ds t rr (by simpa only[wa] using hp)
  refine zG_ ?_
  exact⟨as,by rw[xX];exact .tuple e c dd (by simpa using ra)⟩
 |.scr ns,v,u,r,rv,hp=>by
  simp only[Rep] at r;obtain⟨a,rfl,q⟩:=r
  cases rv
  refine byc fun zG_=>?_
  obtain⟨its,rr,⟨o,n,e,c,_,dd⟩,_⟩:=I.list (fh.seq q)
  refine zG_ ?_
  exact⟨[a],by rw[xX];exact .list e c dd (by simpa using readsAll_ints rr)⟩
 |.raw w,v,u,r,rv,hp=>by simp[wa] at hp
 |.exc w,v,u,r,rv,hp=>by simp[wa] at hp
 |.dct _ _,v,u,r,rv,hp=>by simp[wa] at hp
theorem readss_of(I:Inv X pins σ H s)(fh:Same F H):∀(ds:List D) {vs:List V} {us:List Value},Reps X.K F ds vs→Vals vs us→plainDs ds=true→∃as,ReadsAll s.heap us (toPys ds) as
 |[],vs,us,r,rv,_=>by simp only[Reps] at r;subst r;cases rv;exact⟨[],by rw[toPys];exact .nil⟩
 |d::ds,vs,us,r,rv,hp=>by
  simp only[Reps] at r
  refine byc fun zG_=>?_
  obtain⟨v,r',rfl,q,t⟩:=r
  refine zG_ ?_
  simp only[plainDs,Bool.and_eq_true] at hp
  cases rv with
  |cons r1 r2=>
   obtain⟨as,h1⟩:=wJ I fh d q r1 hp.1
   obtain⟨bs,h2⟩:=readss_of I fh ds t r2 hp.2
   exact⟨as++bs,by rw[toPys];exact .cons h1 h2⟩
end
end
noncomputable def okD(d:D):Bool:=wa d&&(xX d).canLay0&&decide ((xX d).depth≤60)
theorem vJ{d:D}(h:okD d=true):wa d=true∧(xX d).canLay0=true∧(xX d).depth≤60:=by
 simpa[okD,and_assoc] using h
noncomputable def wW(d e:D):Bool:=PyData.eqv (xX d) (xX e)
noncomputable def eqD:D→D→Rs D
 |.str x,.str y=>.ok (.bl (x==y))
 |.int x,.int y=>.ok (.bl (x==y))
 |d,e=>if okD d=true∧okD e=true then .ok (.bl (wW d e)) else .no
noncomputable def neD:D→D→Rs D
 |.str x,.str y=>.ok (.bl (!(x==y)))
 |.int x,.int y=>.ok (.bl (!(x==y)))
 |d,e=>if okD d=true∧okD e=true then .ok (.bl (!wW d e)) else .no
section
variable{X:Cx}
noncomputable def Js(K:Frag)(b:D→D→Bool):R2:=fun x y H Q=>∃F d e,Same F H∧Rep K F d x∧Rep K F e y∧okD d=true∧okD e=true∧Q (.bl (b d e)) H
theorem QI(hu:X.A.units+64<cLine):OpR X (compareOp .Eq) (Js X.K wW):=by
 intro pins s σ H x y v u Q I rx ry h
 refine byc fun zG_=>?_
 obtain⟨F,d,e,fh,r1,r2,o1,o2,q⟩:=h
 obtain⟨p1,c1,e1⟩:=vJ o1
 obtain⟨p2,c2,e2⟩:=vJ o2
 obtain⟨as,h1⟩:=wJ I fh d r1 rx p1
 obtain⟨bs,h2⟩:=wJ I fh e r2 ry p2
 refine zG_ ?_
 exact SeqAt.compareEq_reads h1 h2 c1 c2 (by lia) ⟨.bl _,H,I,rfl,q⟩
theorem QG(hu:X.A.units+64<cLine):OpR X (compareOp .NotEq) (Js X.K fun d e=>!wW d e):=by
 intro pins s σ H x y v u Q I rx ry h
 refine byc fun zG_=>?_
 obtain⟨F,d,e,fh,r1,r2,o1,o2,q⟩:=h
 obtain⟨p1,c1,e1⟩:=vJ o1
 obtain⟨p2,c2,e2⟩:=vJ o2
 obtain⟨as,h1⟩:=wJ I fh d r1 rx p1
 obtain⟨bs,h2⟩:=wJ I fh e r2 ry p2
 refine zG_ ?_
 exact SeqAt.compareNe_reads h1 h2 c1 c2 (by lia) ⟨.bl _,H,I,rfl,q⟩
theorem wn(hu:X.A.units+64<cLine):OpD X (compareOp .Eq) eqD:=⟨_,op_eq.or (QI hu),fun F H x y dx dy Q fh r1 r2 h=>by
 have gen:(Ok X (if okD dx=true∧okD dy=true then .ok (.bl (wW dx dy)) else .no) (Ev X.K F H Q))→rEq x y H Q∨Js X.K wW x y H Q:=fun h=>by
  obtain⟨z,h⟩:=yE h
  exact .inr ⟨F,dx,dy,fh,r1,r2,z.1,z.2,h _ F H (Ext.refl fh) (by simp only[Rep])⟩
 cases dx with
 |str a=>
  cases dy with
  |str b=>
   simp only[Rep] at r1 r2;subst r1;subst r2
   exact .inl ⟨rfl,by rw[Yx];exact h _ F H (Ext.refl fh) (by simp only[Rep])⟩
  |_=>exact gen h
 |int a=>
  cases dy with
  |int b=>
   simp only[Rep] at r1 r2;subst r1;subst r2
   exact .inl ⟨rfl,by rw[Yy];exact h _ F H (Ext.refl fh) (by simp only[Rep])⟩
  |_=>exact gen h
 |_=>exact gen h⟩
theorem up(hu:X.A.units+64<cLine):OpD X (compareOp .NotEq) neD:=⟨_,op_ne.or (QG hu),fun F H x y dx dy Q fh r1 r2 h=>by
 have gen:(Ok X (if okD dx=true∧okD dy=true then .ok (.bl (!wW dx dy)) else .no) (Ev X.K F H Q))→rNe x y H Q∨Js X.K (fun d e=>!wW d e) x y H Q:=fun h=>by
  obtain⟨z,h⟩:=yE h
  exact .inr ⟨F,dx,dy,fh,r1,r2,z.1,z.2,h _ F H (Ext.refl fh) (by simp only[Rep])⟩
 cases dx with
 |str a=>
  cases dy with
  |str b=>
   simp only[Rep] at r1 r2;subst r1;subst r2
   exact .inl ⟨rfl,by rw[Yx];exact h _ F H (Ext.refl fh) (by simp only[Rep])⟩
  |_=>exact gen h
 |int a=>
  cases dy with
  |int b=>
   simp only[Rep] at r1 r2;subst r1;subst r2
   exact .inl ⟨rfl,by rw[Yy];exact h _ F H (Ext.refl fh) (by simp only[Rep])⟩
  |_=>exact gen h
 |_=>exact gen h⟩
noncomputable def intOp(C:Int→Int→Bool)(g:Int→Int→D):D→D→Rs D
 |.int i,.int j=>if C i j=true then .ok (g i j) else .no
 |_,_=>.no
theorem JD{f:Value→Value→Sem Value}{C':Int→Int→Prop}{C:Int→Int→Bool}{gv:Int→Int→V}{g:Int→Int→D}(h:OpR X f (rI C' gv))(hc:∀i j,C i j=true→C' i j)(hg:∀F i j,Rep X.K F (g i j) (gv i j)):OpD X f (intOp C g):=
 ⟨_,h,fun F H x y dx dy Q fh r1 r2 q=>by
  cases dx with
  |int i=>
   cases dy with
   |int j=>
    simp only[Rep] at r1 r2;subst r1;subst r2
    obtain⟨z,q⟩:=yE q
    exact⟨i,j,rfl,rfl,hc i j z,q _ F H (Ext.refl fh) (hg F i j)⟩
   |_=>exact q.elim
  |_=>cases dy <;> exact q.elim⟩
noncomputable def Xb(g:Int→Int→D):D→D→Rs D
 |.int i,.int j=>.ok (g i j)
 |_,_=>.no
theorem j4{f:Value→Value→Sem Value}{gv:Int→Int→V}{g:Int→Int→D}(h:OpR X f (rI0 gv))(hg:∀F i j,Rep X.K F (g i j) (gv i j)):OpD X f (Xb g):=
 ⟨_,h,fun F H x y dx dy Q fh r1 r2 q=>by
  cases dx with
  |int i=>
   cases dy with
   |int j=>
    simp only[Rep] at r1 r2;subst r1;subst r2
    exact⟨i,j,rfl,rfl,q _ F H (Ext.refl fh) (hg F i j)⟩
   |_=>exact q.elim
  |_=>cases dy <;> exact q.elim⟩
noncomputable def Ya:=Xb fun i j=>.int (i-j)
theorem j3:OpD X (binaryOp .Sub) Ya:=j4 ze8 fun _ _ _=>by simp only[Rep]
noncomputable def WV:=intOp (fun _ j=>decide (0<j)) fun i j=>.int (i%j)
theorem ji:OpD X (binaryOp .Mod) WV:=JD zf0 (fun i j h=>by simpa using h) fun _ _ _=>by simp only[Rep]
noncomputable def Xi:=intOp (fun _ j=>decide (0<j∧j<1073741824)) fun i j=>.int (i / j)
theorem j5:OpD X (binaryOp .FloorDiv) Xi:=JD Lc (fun i j h=>by have h':0<j∧j<1073741824:=of_decide_eq_true h;exact h') fun _ _ _=>by simp only[Rep]
noncomputable def ltI:=Xb fun i j=>.bl (decide (i<j))
noncomputable def gtD:=Xb fun i j=>.bl (decide (j<i))
noncomputable def geD:=Xb fun i j=>.bl (decide (j≤i))
theorem UG:OpD X (compareOp .Lt) ltI:=j4 op_lt fun _ _ _=>by simp only[Rep]
theorem WP:OpD X (compareOp .Gt) gtD:=j4 op_gt fun _ _ _=>by simp only[Rep]
theorem ze7:OpD X (compareOp .GtE) geD:=j4 op_ge fun _ _ _=>by simp only[Rep]
noncomputable def zO:D→D→Rs D
 |.int i,.int j=>.ok (.int (i+j))
 |.str i,.str j=>if i.length+j.length≤sizeLine then .ok (.str (i++j)) else .no
 |.lst i,.lst j=>if i.length+j.length≤sizeLine then .ok (.lst (i++j)) else .no
 |_,_=>.no
theorem zH:OpD X (binaryOp .Add) zO:=⟨_,op_add.or (op_add_str.or zf2),fun F H x y dx dy Q fh r1 r2 q=>by
 cases dx with
 |int i=>
  cases dy with
  |int j=>
   simp only[Rep] at r1 r2;subst r1;subst r2
   exact .inl ⟨i,j,rfl,rfl,q _ F H (Ext.refl fh) (by simp only[Rep])⟩
  |_=>exact q.elim
 |str i=>
  cases dy with
  |str j=>
   simp only[Rep] at r1 r2;subst r1;subst r2
   obtain⟨z,q⟩:=yE q
   exact .inr (.inl ⟨i,j,rfl,rfl,z,q _ F H (Ext.refl fh) (by simp only[Rep])⟩)
  |_=>exact q.elim
 |lst i=>
  cases dy with
  |lst j=>
   simp only[Rep] at r1 r2
   refine byc fun zG_=>?_
   obtain⟨a,vs,rfl,e1,t1⟩:=r1
   obtain⟨b,ws,rfl,e2,t2⟩:=r2
   obtain⟨z,q⟩:=yE q
   refine zG_ ?_
   refine .inr (.inr ⟨a,b,vs,ws,rfl,rfl,fh _ _ e1,fh _ _ e2,by rw[← t1.length,← t2.length];exact z,fun p hp=>q _ _ _ (Ext.new fh hp) ?_⟩)
   simp only[Rep]
   exact⟨p,vs++ws,rfl,zo,(t1.append t2).mono (yt (zI fh hp))⟩
  |_=>exact q.elim
 |_=>cases dy <;> exact q.elim⟩
noncomputable def vV:D→D→Rs D
 |.int i,.int j=>if (-(18446744073709551616)<i∧i<18446744073709551616)∨(-(18446744073709551616)<j∧j<18446744073709551616) then .ok (.int (i*j)) else .no
 |.lst i,.int k=>if k<16777216∧-16777216<k∧i.length*k.toNat≤sizeLine then .ok (.lst (List.replicate k.toNat i).flatten) else .no
 |_,_=>.no
theorem ww:OpD X (binaryOp .Mult) vV:=⟨_,op_mul.or ze9,fun F H x y dx dy Q fh r1 r2 q=>by
 cases dx with
 |int i=>
  cases dy with
  |int j=>
   simp only[Rep] at r1 r2;subst r1;subst r2
   obtain⟨z,q⟩:=yE q
   refine .inl ⟨i,j,rfl,rfl,?_,q _ F H (Ext.refl fh) (by simp only[Rep])⟩
   unfold CMul
   rcases z with z|z
   ·exact .inl (by lia)
   ·exact .inr (by lia)
  |_=>exact q.elim
 |lst i=>
  cases dy with
  |int k=>
   simp only[Rep] at r1 r2
   refine byc fun zG_=>?_
   obtain⟨a,vs,rfl,e1,t1⟩:=r1
   subst r2
   obtain⟨z,q⟩:=yE q
   refine zG_ ?_
   refine .inr ⟨a,k,vs,rfl,rfl,fh _ _ e1,by lia,by lia,by rw[← t1.length];exact z.2.2,fun p hp=>q _ _ _ (Ext.new fh hp) ?_⟩
   simp only[Rep]
   exact⟨p,_,rfl,zo,(t1.rep k.toNat).mono (yt (zI fh hp))⟩
  |_=>exact q.elim
 |_=>cases dy <;> exact q.elim⟩
noncomputable def Vp(i j:Str):Bool:=!(Builtin.Str.occurrences j i 0 j.length 1).isEmpty
noncomputable def inD:D→D→Rs D
 |.str i,.str j=>.ok (.bl (Vp i j))
 |d,.lst xs=>if okD d=true∧okD (.lst xs)=true then .ok (.bl (xs.any fun y=>wW y d)) else .no
 |d,.tup xs=>if okD d=true∧okD (.tup xs)=true then .ok (.bl (xs.any fun y=>wW y d)) else .no
 |_,_=>.no
noncomputable def zg4(r:D):Rs D:=match r with
 |.bl b=>.ok (.bl (!b))
 |_=>.no
noncomputable def YY(d e:D):Rs D:=(inD d e).bind zg4
theorem XU:∀xs:List D,toPys xs=xs.map xX:=by
 intro l_
 induction l_ with
 |nil=>
  exact rfl
 |cons d r ih_=>
  rw[toPys,ih_,map_cons]
theorem jl(xs:List D)(d:D):((toPys xs).any fun y=>PyData.eqv y (xX d))=xs.any fun y=>wW y d:=by
 rw[XU,List.any_map];rfl
noncomputable def rInD(K:Frag)(neg:Bool):R2:=fun x y H Q=>∃F d e xs,Same F H∧Rep K F d x∧Rep K F e y∧okD d=true∧okD e=true∧(e=.lst xs∨e=.tup xs)∧Q (.bl (if neg then !(xs.any fun y=>wW y d) else xs.any fun y=>wW y d)) H
theorem QH(hu:X.A.units+128<cLine):OpR X (compareOp .In) (rInD X.K false):=by
 intro pins s σ H x y v u Q I rx ry h
 refine byc fun zG_=>?_
 obtain⟨F,d,e,xs,fh,r1,r2,o1,o2,he,q⟩:=h
 obtain⟨p1,c1,e1⟩:=vJ o1
 obtain⟨p2,c2,e2⟩:=vJ o2
 obtain⟨as,h1⟩:=wJ I fh d r1 rx p1
 obtain⟨bs,h2⟩:=wJ I fh e r2 ry p2
 refine zG_ ?_
 rcases he with rfl|rfl
 ·rw[xX] at h2 c2 e2
  refine SeqAt.in_list_reads h2 h1 (by simpa only[PyData.canLay0] using c2) c1 (by lia) ⟨.bl _,H,I,rfl,?_⟩
  rw[jl];exact q
 ·rw[xX] at h2 c2 e2
  refine SeqAt.in_tuple_reads h2 h1 (by simpa only[PyData.canLay0] using c2) c1 (by lia) ⟨.bl _,H,I,rfl,?_⟩
  rw[jl];exact q
theorem WQ(hu:X.A.units+128<cLine):OpR X (compareOp .NotIn) (rInD X.K true):=by
 intro pins s σ H x y v u Q I rx ry h
 refine byc fun zG_=>?_
 obtain⟨F,d,e,xs,fh,r1,r2,o1,o2,he,q⟩:=h
 obtain⟨p1,c1,e1⟩:=vJ o1
 obtain⟨p2,c2,e2⟩:=vJ o2
 obtain⟨as,h1⟩:=wJ I fh d r1 rx p1
 obtain⟨bs,h2⟩:=wJ I fh e r2 ry p2
 refine zG_ ?_
 rcases he with rfl|rfl
 ·rw[xX] at h2 c2 e2
  refine SeqAt.notIn_list_reads h2 h1 (by simpa only[PyData.canLay0] using c2) c1 (by lia) ⟨.bl _,H,I,rfl,?_⟩
  rw[jl];exact q
 ·rw[xX] at h2 c2 e2
  refine SeqAt.notIn_tuple_reads h2 h1 (by simpa only[PyData.canLay0] using c2) c1 (by lia) ⟨.bl _,H,I,rfl,?_⟩
  rw[jl];exact q
theorem uq(hu:X.A.units+128<cLine):OpD X (compareOp .In) inD:=⟨_,op_in_str.or (QH hu),fun F H x y dx dy Q fh r1 r2 q=>by
 cases dy with
 |lst xs=>
  have q':Ok X (if okD dx=true∧okD (.lst xs)=true then .ok (.bl (xs.any fun y=>wW y dx)) else .no) (Ev X.K F H Q):=by cases dx <;> exact q
  obtain⟨z,q⟩:=yE q'
  exact .inr ⟨F,dx,_,xs,fh,r1,r2,z.1,z.2,.inl rfl,q _ F H (Ext.refl fh) (by simp only[Rep];rfl)⟩
 |tup xs=>
  have q':Ok X (if okD dx=true∧okD (.tup xs)=true then .ok (.bl (xs.any fun y=>wW y dx)) else .no) (Ev X.K F H Q):=by cases dx <;> exact q
  obtain⟨z,q⟩:=yE q'
  exact .inr ⟨F,dx,_,xs,fh,r1,r2,z.1,z.2,.inr rfl,q _ F H (Ext.refl fh) (by simp only[Rep];rfl)⟩
 |str j=>
  cases dx with
  |str i=>
   simp only[Rep] at r1 r2;subst r1;subst r2
   exact .inl ⟨i,j,rfl,rfl,q _ F H (Ext.refl fh) (by simp only[Rep,Vp])⟩
  |_=>exact q.elim
 |_=>cases dx <;> exact q.elim⟩
theorem QF(hu:X.A.units+128<cLine):OpD X (compareOp .NotIn) YY:=⟨_,op_notin_str.or (WQ hu),fun F H x y dx dy Q fh r1 r2 q=>by
 have q:=Ok.bind q
 cases dy with
 |lst xs=>
  have q':Ok X (if okD dx=true∧okD (.lst xs)=true then .ok (.bl (xs.any fun y=>wW y dx)) else .no) (fun r=>Ok X (zg4 r) (Ev X.K F H Q)):=by cases dx <;> exact q
  obtain⟨z,q⟩:=yE q'
  exact .inr ⟨F,dx,_,xs,fh,r1,r2,z.1,z.2,.inl rfl,q _ F H (Ext.refl fh) (by simp only[Rep];rfl)⟩
 |tup xs=>
  have q':Ok X (if okD dx=true∧okD (.tup xs)=true then .ok (.bl (xs.any fun y=>wW y dx)) else .no) (fun r=>Ok X (zg4 r) (Ev X.K F H Q)):=by cases dx <;> exact q
  obtain⟨z,q⟩:=yE q'
  exact .inr ⟨F,dx,_,xs,fh,r1,r2,z.1,z.2,.inr rfl,q _ F H (Ext.refl fh) (by simp only[Rep];rfl)⟩
 |str j=>
  cases dx with
  |str i=>
   simp only[Rep] at r1 r2;subst r1;subst r2
   exact .inl ⟨i,j,rfl,rfl,q _ F H (Ext.refl fh) (by simp only[Rep,Vp])⟩
  |_=>exact q.elim
 |_=>cases dx <;> exact q.elim⟩
noncomputable def isN:D→Rs Bool
 |.non=>.ok true
 |.raw _=>.no
 |.exc _=>.no
 |.dct _ _=>.no
 |_=>.ok false
noncomputable def isD(d e:D):Rs D:=match e with
 |.non=>(isN d).bind fun b=>.ok (.bl b)
 |_=>.no
noncomputable def uw(d e:D):Rs D:=match e with
 |.non=>(isN d).bind fun b=>.ok (.bl (!b))
 |_=>.no
theorem JT{F:Hp}{d:D}{v:V}{P:Bool→Prop}(r:Rep X.K F d v)(h:Ok X (isN d) P):P (decide (v=.non)):=by
 cases d with
 |non=>simp only[Rep] at r;subst r;exact h
 |bl b=>simp only[Rep] at r;subst r;exact h
 |int b=>simp only[Rep] at r;subst r;exact h
 |str b=>simp only[Rep] at r;subst r;exact h
 |lst b=>simp only[Rep] at r;obtain⟨a,vs,rfl,_⟩:=r;exact h
 |tup b=>simp only[Rep] at r;obtain⟨a,vs,rfl,_⟩:=r;exact h
 |scr b=>simp only[Rep] at r;obtain⟨a,rfl,_⟩:=r;exact h
 |raw b=>exact h.elim
 |exc b=>exact h.elim
 |dct _ _=>exact h.elim
theorem ze6:OpD X (compareOp .Is) isD:=⟨_,zf1,fun F H x y dx dy Q fh r1 r2 q=>by
 cases dy with
 |non=>simp only[Rep] at r2;exact⟨r2,JT r1 (Ok.bind q) _ F H (Ext.refl fh) (by simp only[Rep])⟩
 |_=>exact q.elim⟩
theorem X6:OpD X (compareOp .IsNot) uw:=⟨_,Lb,fun F H x y dx dy Q fh r1 r2 q=>by
 cases dy with
 |non=>simp only[Rep] at r2;have q':Ok X ((isN dx).bind fun b=>Rs.ok (D.bl (!b))) (Ev X.K F H Q):=q;have q2:=JT (P:=fun b=>Ok X (Rs.ok (D.bl (!b))) (Ev X.K F H Q)) r1 (Ok.bind q');exact⟨r2,q2 _ F H (Ext.refl fh) (by simp only[Rep])⟩
 |_=>exact q.elim⟩
noncomputable def xQ(fa:FE):FE:=fun τ=>(fa τ).bind fun d=>match d with
 |.int i=>.ok (.int (-i))
 |_=>.no
theorem wj{a:Expr}{pos:Pos}{fa:FE}(ha:PDE X a fa):PDE X (.UnaryOp .USub a pos) (xQ fa):=
 PE.imp (pe_un zb8 ha) fun σ H Q z_=>by
  refine byc fun zG_=>?_
  obtain⟨F,τ,R,h⟩:=z_
  refine zG_ ?_
  refine tE.of R h.bind fun d v F1 H1 g x R1 r=>?_
  cases d with
  |int i=>simp only[Rep] at r;exact⟨i,r,g _ F1 H1 x (by simp only[Rep])⟩
  |_=>exact g.elim
end
noncomputable def yT(env:Env)(cs:List (Str×Addr))(y:Str×NameKind):List (Str×Addr):=if y.2==NameKind.free then (y.1,(env.cells.lookup y.1).getD 0)::cs else cs
noncomputable def wt(scope:Scope)(env:Env):List (Str×Addr):=scope.names.foldl (yT env) []
theorem vX{scope:Scope}{env:Env}(h:∀y∈scope.names,y.2=.free→(env.cells.lookup y.1).isSome=true):closureFor scope env=pure (wt scope env):=by
 unfold closureFor wt
 generalize scope.names=names at h
 have gen:∀(cs:List (Str×Addr)),(forIn names cs fun x r=>(do
   if (x.2==NameKind.free)=true then do
    let c ← cellOf env x.1
    pure PUnit.unit
    pure (ForInStep.yield ((x.1,c)::r))
   else do
    pure PUnit.unit
    pure (ForInStep.yield r)):Sem (List (Str×Addr)))=pure (names.foldl (yT env) cs):=by
  induction names with
  |nil=>intro cs;rfl
  |cons y r ih=>
   intro cs
   rw[List.forIn_cons,foldl_cons]
   by_cases hk:y.2=.free
   ·obtain⟨c,hc⟩:=Option.isSome_iff_exists.mp (h y mem_cons_self hk)
    have e:yT env cs y=(y.1,c)::cs:=by simp[yT,hk,hc]
    rw[e,← ih (fun z hz=>h z (mem_cons_of_mem _ hz))]
    simp only[hk,beq_self_eq_true,if_true,cellOf,hc]
    rfl
   ·have hb:(y.2==NameKind.free)=false:=by simpa using hk
    have e:yT env cs y=cs:=by simp[yT,hb]
    rw[e,← ih (fun z hz=>h z (mem_cons_of_mem _ hz))]
    simp only[hb,Bool.false_eq_true,if_false]
    rfl
 show((forIn names ([]:List (Str×Addr)) fun x r=>(do
   if (x.2==NameKind.free)=true then do
    let c ← cellOf env x.1
    pure PUnit.unit
    pure (ForInStep.yield ((x.1,c)::r))
   else do
    pure PUnit.unit
    pure (ForInStep.yield r)):Sem (List (Str×Addr))) >>= fun s=>pure s)=_
 rw[gen []]
 rfl
theorem Z3{env:Env}{x:Str}:∀{names:List (Str×NameKind)} {cs:List (Str×Addr)} {c:Addr},(names.foldl (yT env) cs).lookup x=some c→cs.lookup x=some c∨(∃y∈names,y.1=x∧y.2=.free∧c=(env.cells.lookup x).getD 0)
 |[],cs,c,h=>.inl h
 |y::r,cs,c,h=>by
  rw[foldl_cons] at h
  rcases Z3 h with q|⟨z,hz,e⟩
  ·by_cases hk:y.2=.free
   ·have e:yT env cs y=(y.1,(env.cells.lookup y.1).getD 0)::cs:=by simp[yT,hk]
    rw[e,lookup_cons] at q
    by_cases hx:x=y.1
    ·subst hx
     simp at q
     exact .inr ⟨y,mem_cons_self,rfl,hk,q.symm⟩
    ·have hb:(x==y.1)=false:=by simpa using hx
     rw[hb] at q
     exact .inl q
   ·have hb:(y.2==NameKind.free)=false:=by simpa using hk
    have e:yT env cs y=cs:=by simp[yT,hb]
    rw[e] at q
    exact .inl q
  ·exact .inr ⟨z,mem_cons_of_mem _ hz,e⟩
theorem u0{env:Env}{x:Str}:∀{names:List (Str×NameKind)} {cs:List (Str×Addr)},((∃y∈names,y.1=x∧y.2=.free)∨∃c,cs.lookup x=some c)→∃c,(names.foldl (yT env) cs).lookup x=some c
 |[],cs,h=>by
  rcases h with ⟨y,hy,_⟩|h
  ·cases hy
  ·exact h
 |y::r,cs,h=>by
  rw[foldl_cons]
  refine u0 ?_
  by_cases hk:y.2=.free
  ·have e:yT env cs y=(y.1,(env.cells.lookup y.1).getD 0)::cs:=by simp[yT,hk]
   rw[e]
   by_cases hx:x=y.1
   ·subst hx;exact .inr ⟨(env.cells.lookup y.1).getD 0,by rw[lookup_cons];simp⟩
   ·have hb:(x==y.1)=false:=by simpa using hx
    rcases h with ⟨z,hz,e1,e2⟩|⟨c,hc⟩
    ·rcases mem_cons.mp hz with rfl|hz
     ·exact absurd e1.symm hx
     ·exact .inl ⟨z,hz,e1,e2⟩
    ·exact .inr ⟨c,by rw[lookup_cons,hb];exact hc⟩
  ·have hb:(y.2==NameKind.free)=false:=by simpa using hk
   have e:yT env cs y=cs:=by simp[yT,hb]
   rw[e]
   rcases h with ⟨z,hz,e1,e2⟩|h
   ·rcases mem_cons.mp hz with rfl|hz
    ·exact absurd e2 hk
    ·exact .inl ⟨z,hz,e1,e2⟩
   ·exact .inr h
noncomputable def _root_.L2.Cx.comp(X:Cx)(scope:Scope)(N:List Str)(s:Shared)(H:Hp)(C:Addr)(fp:List Addr):Cx:=
 { prog:=X.prog,w:=X.w,K:=X.K,mg:=X.mg,base:=X.base,A:=X.A,N:=N,s₀:=s,H₀:=H,env:=compEnvC scope (wt scope X.env) C X.env,outer:=X.stack,stack:=X.stack,ex:=fp,fn:=fun _=>false,calm:=X.calm,pn:=[],xe:=fun _ _=>False }
structure xU(X:Cx)(scope:Scope):Prop where
 kind:scope.kind=.function
 nocell:∀y∈scope.names,y.2≠.cell
 locs:∀y∈scope.names,y.2=.local→scope.names.lookup y.1=some .local
 free:∀y∈scope.names,y.2=.free→X.env.kindOf y.1=some .cell∨X.env.kindOf y.1=some .free
theorem vf{env:Env}:∀{names:List (Str×NameKind)} {x:Str},((names.map fun (n,k)=>if (k==NameKind.free&&env.scope.kind == .function&&env.kindOf n==some .cell) then (n,NameKind.cell) else (n,k)).lookup x=some .cell ∨
  (names.map fun (n,k)=>if (k==NameKind.free&&env.scope.kind == .function&&env.kindOf n==some .cell) then (n,NameKind.cell) else (n,k)).lookup x=some .free)→(∀y∈names,y.2≠.cell)→∃y∈names,y.1=x∧y.2=.free
 |[],_,h,_=>by rcases h with h|h <;> simp at h
 | (n,k)::r,x,h,hc=>by
  have hr:∀y∈r,y.2≠.cell:=fun y hy=>hc y (mem_cons_of_mem _ hy)
  rw[map_cons] at h
  by_cases hx:x=n
  ·subst hx
   by_cases hk:k=.free
   ·exact⟨_,mem_cons_self,rfl,hk⟩
   ·have hb:(k==NameKind.free)=false:=by simpa using hk
    have hck:k≠.cell:=hc (x,k) mem_cons_self
    simp only[hb,Bool.false_and,Bool.false_eq_true,if_false,lookup_cons,beq_self_eq_true] at h
    rcases h with h|h
    ·exact absurd (Option.some.inj h) hck
    ·exact absurd (Option.some.inj h) hk
  ·have hb:(x==n)=false:=by simpa using hx
   have step:∀q:Str×NameKind,q.1=n→((q::(r.map fun (n,k)=>if (k==NameKind.free&&env.scope.kind == .function&&env.kindOf n==some .cell) then (n,NameKind.cell) else (n,k))).lookup x)=((r.map fun (n,k)=>if (k==NameKind.free&&env.scope.kind == .function&&env.kindOf n==some .cell) then (n,NameKind.cell) else (n,k)).lookup x):=fun q hq=>by
    obtain⟨q1,q2⟩:=q
    simp only at hq
    subst hq
    rw[lookup_cons,hb]
   have h':((r.map fun (n,k)=>if (k==NameKind.free&&env.scope.kind == .function&&env.kindOf n==some .cell) then (n,NameKind.cell) else (n,k)).lookup x=some .cell∨(r.map fun (n,k)=>if (k==NameKind.free&&env.scope.kind == .function&&env.kindOf n==some .cell) then (n,NameKind.cell) else (n,k)).lookup x=some .free):=by
    rcases h with h|h
    ·left;exact(step _ (by show(if (k==NameKind.free&&env.scope.kind == .function&&env.kindOf n==some .cell)=true then (n,NameKind.cell) else (n,k)).1=n;split <;> rfl)).symm.trans h
    ·right;exact(step _ (by show(if (k==NameKind.free&&env.scope.kind == .function&&env.kindOf n==some .cell)=true then (n,NameKind.cell) else (n,k)).1=n;split <;> rfl)).symm.trans h
   obtain⟨y,hy,e⟩:=vf h' hr
   exact⟨y,mem_cons_of_mem _ hy,e⟩
theorem uh{env:Env}:∀{names:List (Str×NameKind)} {x:Str},names.lookup x=some .free→¬ (names.map fun (n,k)=>if (k==NameKind.free&&env.scope.kind == .function&&env.kindOf n==some .cell) then (n,NameKind.cell) else (n,k)).lookup x=some .local
 |[],_,h=>by simp at h
 | (n,k)::r,x,h=>by
  rw[map_cons]
  show ¬ List.lookup x ((if (k==NameKind.free&&env.scope.kind == .function&&env.kindOf n==some .cell)=true then (n,NameKind.cell) else (n,k))::_)=_
  rw[lookup_cons] at h
  by_cases hx:x=n
  ·subst hx
   simp only[beq_self_eq_true] at h
   have hk:k=.free:=Option.some.inj h
   subst hk
   split <;> simp[lookup_cons]
  ·have hb:(x==n)=false:=by simpa using hx
   rw[hb] at h
   split
   ·rw[lookup_cons,hb];exact uh h
   ·rw[lookup_cons,hb];exact uh h
section
variable{X:Cx}{scope:Scope}{N':List Str}
theorem ZO(S:xU X scope)(ok:X.Ok){x:Str}{c:Addr}(h:(wt scope X.env).lookup x=some c):X.env.cells.lookup x=some c:=by
 rcases Z3 h with q|⟨y,hy,e1,e2,e3⟩
 ·simp at q
 ·subst e1
  obtain⟨c',hc'⟩:=ok.has y.1 (S.free y hy e2)
  rw[hc'] at e3 ⊢
  rw[e3];rfl
theorem M6{pins:List (Addr×Obj)}{σ σ':St}{H:Hp}{s:Shared}{h1:Heap}{fp:List Addr}{t:Nat}(S:xU X scope)(I:Inv X pins σ H s)(hfp:∀b∈fp,XO X pins H b)(hlt:∀b∈fp,b<s.heap.objs.size)
  (hn:h1.Ns s.heap.objs.size fun _=>none) (hsb:∀b o,s.heap.get? b=some o→h1.get? b=some o) (hl:σ'.length=N'.length)
  (hσ:∀(i:Nat) (v:V),σ'[i]?=some (some v)→∃(x:Str) (j:Nat),N'[i]?=some x∧X.N[j]?=some x∧σ[j]?=some (some v)∧scope.names.lookup x=some .free) :
  Inv (X.comp scope N' s H s.heap.objs.size fp) [] σ' H { s with heap:=h1,toks:=t }:=by
 have hH:H s.heap.objs.size=none:=I.hok.fresh (le_refl _)
 have cl:∀{x c},(wt scope X.env).lookup x=some c→X.env.cells.lookup x=some c:=fun h=>ZO S I.ok h
 have kept:∀{c v},s.heap.IsCell c v→h1.IsCell c v:=fun ⟨o,e,d⟩=>⟨o,hsb _ o e,d⟩
 refine⟨⟨I.ok.mod,S.kind,I.ok.glob,I.ok.blt,le_refl _,fun x y c e1 e2=>I.ok.inj x y c (cl e1) (cl e2),fun x hx=>?_,fun x c hf _=>absurd hf (by simp[Cx.comp]),I.ok.hd,I.ok.frames,.inl rfl,fun b hb=>?_,I.bs,le_trans I.ok.bsz I.sz,fun b o e hb=>?_,fun b hb hs=>?_,I.stack,I.stkFree⟩,
  I.os.symm ▸ rfl,I.bare,Un.kept hsb,⟨_,hn,fun i x v e1 e2 e3=>?_⟩,fun x c e=>?_,hH,fun x c e=>I.freeC x c (cl e),fun p hp=>absurd (show p∈([]:List (Addr×Obj)) from hp) (by simp),I.hok.kept hsb,hl⟩
 ·have hx:(relabel scope X.env).names.lookup x=some .cell∨(relabel scope X.env).names.lookup x=some .free:=hx
  exact u0 (.inl (vf hx S.nocell))
 ·have hb:b∈fp:=hb
  refine⟨ne_of_lt (hlt b hb),fun x c e=>(hfp b hb).2.2.2.2.1 x c (cl e)⟩
 ·have hb:b∈fp:=hb
  rcases (hfp b hb).2.2.2.1 with z|z
  ·exact I.ok.noex b o e z
  ·exact absurd (lt_of_lt_of_le (Heap.lt_size e) (le_trans I.ok.bsz z)) (lt_irrefl _)
 ·have hb:b∈fp:=hb
  refine byc fun zG_=>?_
  obtain⟨_,f1,f2,_⟩:=hfp b hb
  refine zG_ ?_
  rcases mem_cons.mp (I.stkSub b hs) with z|z
  ·exact f1 z
  ·exact f2 z
 ·refine byc fun zG_=>?_
  obtain⟨x',j,e4,e5,e6,e9⟩:=hσ i v e2
  refine zG_ ?_
  have hy:=PySem.mem_of_lookup e9
  have e1':N'[i]?=some x:=e1
  rw[e1'] at e4;cases e4
  have kd:=S.free _ hy rfl
  refine byc fun zG_=>?_
  obtain⟨m,hm,hl⟩:=I.loc
  obtain⟨u,ru,lk⟩:=hl j x v e5 e6 (kd.elim (fun z=>.inr (.inl z)) fun z=>.inr (.inr z))
  refine zG_ ?_
  refine⟨u,ru,?_⟩
  rcases lk with ⟨z,_⟩|⟨z,c,hc,hcell⟩
  ·rcases kd with k|k <;> rw[k] at z <;> cases z
  ·obtain⟨c',hc'⟩:=u0 (env:=X.env) (names:=scope.names) (cs:=[]) (x:=x) (.inl ⟨_,hy,rfl,rfl⟩)
   have:=cl hc'
   rw[hc] at this;cases this
   have e3':(relabel scope X.env).names.lookup x=some .local∨(relabel scope X.env).names.lookup x=some .cell∨(relabel scope X.env).names.lookup x=some .free:=e3
   rcases e3' with q|q|q
   ·exact absurd q (uh e9)
   ·exact .inr ⟨.inl q,c,hc',kept hcell⟩
   ·exact .inr ⟨.inr q,c,hc',kept hcell⟩
 ·obtain⟨v,z⟩:=I.cell x c (cl e)
  exact⟨v,kept z⟩
end
theorem Gc{prog:Program}{w:World}{A:Around}{R:Result→Shared→Prop}{s:Shared}{elt target iter:Expr}{ifs:List Expr}{scope:Scope}{pos:Pos}{it acc:Value}{env:Env}(I:Nat→Shared→Prop)
  (turn:∀n s,I n s→wpAny (model prog w) A (pyNext it) (fun r s₁=>match r with
   |none=>R (.ok .next) s₁
   |some v=>wpAny (model prog w) A (letOwnedTupleGo target it v) (fun _ s0=>wpAny (model prog w) A (assign target env v) (fun _ s₂=>
     wpAny (model prog w) A (forIn ifs true fun c r=>if r=true then do let ok ← isTrue c env (eval c env);pure (ForInStep.yield ok) else pure (ForInStep.yield r)) (fun ok s₃=>
      if ok=true then wpAny (model prog w) A (eval elt env) (fun x s₄=>
       wpAny (model prog w) A (call (.builtin "list.append") [acc,x]) (fun _ s₅=>∃m,m<n∧I m s₅) (fun _ _=>False) s₄) (fun _ _=>False) s₃
      else ∃m,m<n∧I m s₃) (fun _ _=>False) s₂) (fun _ _=>False) s0) (fun _ _=>False) s₁) (fun _ _=>False) s)
  (n:Nat) (h:I n s) :
  codeAny (model prog w) A (.compLoop (.ListComp elt [⟨target,iter,ifs,0⟩] scope pos) 0 it acc env) R s:=by
 refine codeAny_loop rfl I (fun n s hI=>?_) n h
 show wpAny _ A ((compTurn (.ListComp elt [⟨target,iter,ifs,0⟩] scope pos) 0 it acc env).onRaise (fun x=>do noteFrame x env;theTreesLotGoes x)) _ _ s
 refine wpAny_noted ?_
 rw[compTurn_list]
 refine wpAny_bind (wpAny_standAt (wpAny_bind (wpAny_mono (turn n s hI) (fun r s₁ h₁=>?_) fun _ _ h'=>h'.elim)))
 cases r with
 |none=>exact wpAny_pure h₁
 |some v=>
  refine wpAny_bind (wpAny_mono h₁ (fun _ s0 h0=>?_) fun _ _ h'=>h'.elim)
  refine wpAny_bind (wpAny_mono h0 (fun _ s₂ h₂=>wpAny_bind (wpAny_mono h₂ (fun ok s₃ h₃=>?_) fun _ _ h'=>h'.elim)) fun _ _ h'=>h'.elim)
  cases ok with
  |false=>exact wpAny_pure ⟨rfl,h₃⟩
  |true=>
   exact wpAny_bind (wpAny_bind (wpAny_mono h₃ (fun x s₄ h₄=>wpAny_bind (wpAny_mono h₄ (fun _ s₅ h₅=>wpAny_pure (wpAny_pure ⟨rfl,h₅⟩)) fun _ _ h'=>h'.elim)) fun _ _ h'=>h'.elim))
theorem Mj{M:Model}{A:Around}{env:Env}{Q:Bool→Shared→Prop}{E:Value→Shared→Prop}{s:Shared}(h:Q true s) :
  wpAny M A (forIn ([]:List Expr) true fun c r=>if r=true then do let ok ← isTrue c env (eval c env);pure (ForInStep.yield ok) else pure (ForInStep.yield r)) Q E s:=wpAny_pure h
theorem Mc{M:Model}{A:Around}{env:Env}{Q:Bool→Shared→Prop}{E:Value→Shared→Prop}{s:Shared}{c:Expr}(h:wpAny M A (isTrue c env (eval c env)) Q E s) :
  wpAny M A (forIn [c] true fun c r=>if r=true then do let ok ← isTrue c env (eval c env);pure (ForInStep.yield ok) else pure (ForInStep.yield r)) Q E s:=by
 rw[List.forIn_cons]
 simp only[if_true]
 refine wpAny_bind (wpAny_bind (wpAny_mono h (fun b s' q=>wpAny_pure ?_) fun _ _ e=>e))
 exact wpAny_pure q
noncomputable def PTs(Y:Cx)(ifs:List Expr)(t:TT):Prop:=∀(pins:List (Addr×Obj)) (s:Shared) (σ:St) (H:Hp) (Q:Bool→Hp→Prop),Inv Y pins σ H s→t σ H Q →
 wpAny (model Y.prog Y.w) Y.A (forIn ifs true fun c r=>if r=true then do let ok ← isTrue c Y.env (eval c Y.env);pure (ForInStep.yield ok) else pure (ForInStep.yield r)) (TP Y pins σ Q) Y.xe s
theorem Ju{Y:Cx}:PTs Y [] (fun _ H Q=>Q true H):=fun pins s σ H Q I h=>Mj ⟨H,I,h⟩
theorem TK{Y:Cx}{c:Expr}{t:TT}(h:PT Y c t):PTs Y [c] t:=fun pins s σ H Q I q=>Mc (h pins s σ H Q I q)
noncomputable def Jg(s0:St→St)(wi:TI)(g:TG)(ti:TT)(te:TE):TE:=fun σ H Q=>wi σ H fun J H1=>∀acc,H1 acc=none→∃W:Nat→Nat→St→Hp→Prop,(∃m,W 0 m (s0 σ) (upd H1 acc (.lst [])))∧∀i m σ1 H,W i m σ1 H →
 (J.stop i H∧Q (.ref acc) H)∨(J.go i H∧∀x H',J.yld i H x H'→g x σ1 H' fun σ2 H2=>ti σ2 H2 fun b H3=>
  if b=true then te σ2 H3 fun y H4=>∃ys,H4 acc=some (.lst ys)∧ys.length<sizeLine∧∃m',m'<m∧W (i+1) m' σ2 (upd H4 acc (.lst (ys++[y]))) else ∃m',m'<m∧W (i+1) m' σ2 H3)
section
variable{X:Cx}{scope:Scope}{N':List Str}{tg iter elt:Expr}{ifs:List Expr}{pos:Pos}{wi:TI}{g:TG}{ti:TT}{te:TE}{s0:St→St}
theorem LD{P:Program}{w:World}{H:Hp}{h h':Heap}{C:Addr}(ok:HOk P w H h)(hC:H C=none)(k:∀b o,b≠C→h.get? b=some o→h'.get? b=some o):HOk P w H h':=fun b u e=>by
 refine(ok b u e).stay (fun c v hc q=>k c v ?_ q) (fun _ q=>q) fun _ _ q=>q
 rintro rfl
 rcases hc with z|z
 ·subst z;rw[hC] at e;cases e
 ·rw[hC] at z;cases z
theorem Xn{pins:List (Addr×Obj)}{σ:St}{H:Hp}{s:Shared}{QQ:V→Hp→Prop}{J:It}{fp:List Addr}{it acc:Addr}{tn:Nat→Heap→Prop}{RR:Addr→Result→Shared→Prop}{E:Value→Shared→Prop}{W:Nat→Nat→St→Hp→Prop}{m0:Nat}
  (S:xU X scope) (hc:X.calm=true) (hl:(s0 σ).length=N'.length)
  (hσ:∀(i:Nat) (v:V),(s0 σ)[i]?=some (some v)→∃(x:Str) (j:Nat),N'[i]?=some x∧X.N[j]?=some x∧σ[j]?=some (some v)∧scope.names.lookup x=some .free)
  (hg:∀s H C fp,PG (X.comp scope N' s H C fp) tg g) (ht:∀s H C fp,PTs (X.comp scope N' s H C fp) ifs ti) (he:∀s H C fp,PE (X.comp scope N' s H C fp) elt te)
  (I:Inv X pins σ H s) (T:Vf X.prog X.w X.K tg J fp it tn) (st:tn 0 s.heap) (hfp:∀b∈fp,XO X pins H b) (hlt:∀b∈fp,b<s.heap.objs.size) (hacc:acc<s.heap.objs.size)
  (w0:W 0 m0 (s0 σ) H) (turn:∀i m σ1 H,W i m σ1 H→(J.stop i H∧QQ (.ref acc) H)∨(J.go i H∧∀x H',J.yld i H x H'→g x σ1 H' fun σ2 H2=>ti σ2 H2 fun b H3=>
    if b=true then te σ2 H3 fun y H4=>∃ys,H4 acc=some (.lst ys)∧ys.length<sizeLine∧∃m',m'<m∧W (i+1) m' σ2 (upd H4 acc (.lst (ys++[y]))) else ∃m',m'<m∧W (i+1) m' σ2 H3))
  (hRR:∀s',(∃m,s'.heap.Ns s.heap.objs.size m)→(∀h',Heap.SameBut s.heap.objs.size s'.heap h'→EP X pins σ (fun v H'=>QQ v H'∧H' s.heap.objs.size=none) (.ref acc) { s' with heap:=h' })→RR s.heap.objs.size (.ok .next) s') :
  wpAny (model X.prog X.w) X.A (newFunctionEnv scope X.env.globals (wt scope X.env) [] X.env.qual none .none (some X.env)) (fun cenv s₄=>
   codeAny (model X.prog X.w) X.A (.compStart (.ListComp elt [⟨tg,iter,ifs,0⟩] scope pos) 0 (.ref it) (.ref acc) { cenv with scope:=relabel scope X.env }) (RR cenv.locals) s₄) E s:=by
 refine wpAny_newFunctionEnv S.nocell (by intro y hy;simp at hy) (fun h1 hns hsb=>?_) S.kind
 have keep3:∀b o,s.heap.get? b=some o→h1.get? b=some o:=fun b o e=>hsb.extBut b o (ne_of_lt (Heap.lt_size e)) (get?_push_of_some _ e)
 have Y0:Inv (X.comp scope N' s H s.heap.objs.size fp) [] (s0 σ) H { s with heap:=h1,toks:=s.toks+([]:List (Str×Value)).length }:=M6 S I hfp hlt hns keep3 hl hσ
 have fpY:∀{H':Hp},(∀b∈fp,H' b=none)→∀b∈fp,XO (X.comp scope N' s H s.heap.objs.size fp) [] H' b:=fun {H'} hn b hb=>by
  refine byc fun zG_=>?_
  obtain⟨f0,f1,f2,f3,f4,f5⟩:=hfp b hb
  refine zG_ ?_
  refine⟨hn b hb,ne_of_lt (hlt b hb),fun z=>?_,.inl hb,fun x c e=>f4 x c (ZO S I.ok e),fun p hp=>absurd (show p∈([]:List (Addr×Obj)) from hp) (by simp)⟩
  rcases mem_cons.mp (I.stkSub b z) with q|q
  ·exact f1 q
  ·exact f2 q
 have st1:tn 0 h1:=T.keep _ _ _ st fun b hb o e=>keep3 b o e
 have loop:∀s3:Shared,s3 = { s with heap:=h1,toks:=s.toks+([]:List (Str×Value)).length } →
   codeAny (model X.prog X.w) X.A (.compLoop (.ListComp elt [⟨tg,iter,ifs,0⟩] scope pos) 0 (.ref it) (.ref acc) (X.comp scope N' s H s.heap.objs.size fp).env) (RR s.heap.objs.size) s3:=by
  rintro s3 rfl
  refine Gc (fun n s'=>∃i σ' H',Inv (X.comp scope N' s H s.heap.objs.size fp) [] σ' H' s'∧tn i s'.heap∧(∀b∈fp,H' b=none)∧W i n σ' H') ?_ m0 ⟨0,s0 σ,H,Y0,st1,fun b hb=>(hfp b hb).1,w0⟩
  rintro n s4 ⟨i,σ4,H4,I4,st4,fr4,w4⟩
  rcases turn i n σ4 H4 w4 with ⟨stop,qn⟩|⟨go,step⟩
  ·refine thn (T.done (X.comp scope N' s H s.heap.objs.size fp) rfl rfl rfl hc i [] s4 σ4 H4 _ I4 (fpY fr4) st4 stop) fun r s5 z_=>?_
   refine byc fun zG_=>?_
   obtain⟨hr,I5⟩:=z_
   subst hr
   obtain⟨m5,n5,_⟩:=id I5.loc
   refine zG_ ?_
   have hC:H4 s.heap.objs.size=none:=I5.free
   refine hRR s5 ⟨m5,n5⟩ fun h' sb=>⟨.ref acc,H4,?_,rfl,qn,hC⟩
   refine I.call' (s':={ s5 with heap:=h' }) (ch:=fp) I5.os ⟨fun b o e n hb hx=>?_,fun b o e n hb hx=>?_,fun b o e n hx=>I5.base.free b o e n hx,fun b o e hx=>?_,I5.base.tups,I5.base.frzs,I5.base.tbls⟩ (LD I5.hok hC fun b o hb e=>(sb.2 b hb).trans e) I5.bare fun b hb=>?_
   ·exact(sb.2 b (ne_of_lt (Heap.lt_size e))).trans (I5.base.keep b o e n hb hx)
   ·obtain⟨sl,q⟩:=I5.base.slot b o e n hb hx
    exact⟨sl,(sb.2 b (ne_of_lt (Heap.lt_size e))).trans q⟩
   ·obtain⟨o',q⟩:=I5.base.there b o e hx
    exact⟨o',(sb.2 b (ne_of_lt (Heap.lt_size e))).trans q⟩
   ·refine byc fun zG_=>?_
    obtain⟨f0,f1,f2,f3,f4,f5⟩:=hfp b hb
    refine zG_ ?_
    exact⟨f3,f1,f4,f5⟩
  ·refine thn (T.item (X.comp scope N' s H s.heap.objs.size fp) rfl rfl rfl hc i [] s4 σ4 H4 _ I4 (fpY fr4) st4 go) fun r s5 z_=>?_
   obtain⟨u,hr,h5⟩:=z_
   subst hr
   refine thn h5 fun _ s6 z_=>?_
   refine byc fun zG_=>?_
   obtain⟨x,H6,I6,r6,y6,st6,fr6⟩:=z_
   refine zG_ ?_
   have I6':=I6.pinned (fpY fr6) (T.obj _ _ st6)
   refine thn (hg _ _ _ _ _ s6 σ4 H6 x u _ I6' r6 (step x H6 y6)) fun _ s7 z_=>?_
   refine byc fun zG_=>?_
   obtain⟨σ7,H7,I7,q7⟩:=z_
   refine zG_ ?_
   refine thn (ht _ _ _ _ _ s7 σ7 H7 _ I7 q7) fun ok s8 z_=>?_
   obtain⟨H8,I8,q8⟩:=z_
   have again:∀{s9:Shared} {H9:Hp} {m':Nat},Inv (X.comp scope N' s H s.heap.objs.size fp) ([]++YJ fp s6.heap) σ7 H9 s9→m'<n→W (i+1) m' σ7 H9→∃m,m<n∧∃i σ' H',Inv (X.comp scope N' s H s.heap.objs.size fp) [] σ' H' s9∧tn i s9.heap∧(∀b∈fp,H' b=none)∧W i m σ' H':=fun {s9 H9 m'} I9 hm w9=>by
    refine⟨m',hm,i+1,σ7,H9,I9.unpinned,T.keep _ _ _ st6 fun b hb o e=>(I9.pin (b,o) (mem_append_right _ (mem_append_right _ (uu hb e)))).1,fun b hb=>?_,w9⟩
    obtain⟨o,e,d⟩:=T.obj _ _ st6 b hb
    exact(I9.pin (b,o) (mem_append_right _ (mem_append_right _ (uu hb e)))).2.1
   cases ok with
   |false=>
    rw[if_neg (by simp)] at q8
    obtain⟨m',hm,w8⟩:=q8
    exact again I8 hm w8
   |true=>
    rw[if_pos rfl] at q8
    refine thn (he _ _ _ _ _ s8 σ7 H8 _ I8 q8) fun y s9 z_=>?_
    refine byc fun zG_=>?_
    obtain⟨z,H9,I9,r9,ys,e9,l9,m',hm,w9⟩:=z_
    refine zG_ ?_
    refine thn (ua _ s9 σ7 H9 (.ref acc) [z] (.ref acc) [y] (fun _ H'=>H'=upd H9 acc (.lst (ys++[z]))) I9 rfl (.cons r9 .nil) ⟨acc,ys,z,rfl,rfl,e9,l9,rfl⟩) fun _ s10 z_=>?_
    refine byc fun zG_=>?_
    obtain⟨_,H10,I10,_,e10⟩:=z_
    refine zG_ ?_
    subst e10
    exact again I10 hm w9
 exact codeAny_compStart_list (loop _ rfl) (T.self _ 0 _ _ _ st1 (loop _ rfl))
end
section
variable{X:Cx}{scope:Scope}{N':List Str}{tg iter elt:Expr}{ifs:List Expr}{pos:Pos}{wi:TI}{g:TG}{ti:TT}{te:TE}{s0:St→St}
theorem za9{pins:List (Addr×Obj)}{σ:St}{H:Hp}{s:Shared}{J:It}{fp:List Addr}{it:Addr}{tn:Nat→Heap→Prop}(T:Vf X.prog X.w X.K tg J fp it tn)(st:tn 0 s.heap):∀b∈fp,b<s.heap.objs.size:=fun b hb=>by
 obtain⟨o,e,_⟩:=T.obj 0 _ st b hb
 exact Heap.lt_size e
theorem WI(S:xU X scope)(hc:X.calm=true)(hl:∀σ:St,σ.length=X.N.length→(s0 σ).length=N'.length)
  (hσ:∀(σ:St) (i:Nat) (v:V),(s0 σ)[i]?=some (some v)→∃(x:Str) (j:Nat),N'[i]?=some x∧X.N[j]?=some x∧σ[j]?=some (some v)∧scope.names.lookup x=some .free)
  (hi:PI X tg iter wi) (hg:∀s H C fp,PG (X.comp scope N' s H C fp) tg g) (ht:∀s H C fp,PTs (X.comp scope N' s H C fp) ifs ti) (he:∀s H C fp,PE (X.comp scope N' s H C fp) elt te)
  (hs:∀x,foldedSetIterable iter X.env x=pure x:=by intro _;rfl):PE X (.ListComp elt [⟨tg,iter,ifs,0⟩] scope pos) (Jg s0 wi g ti te):=by
 intro pins s σ H Q I h
 rw[eval_ListComp]
 have hclos:=vX (scope:=scope) (env:=X.env) fun y hy hk=>Option.isSome_iff_exists.mpr (I.ok.has y.1 (S.free y hy hk))
 refine wpAny_comprehension_free (use:=none) rfl hs hclos S.kind S.locs (thn (hi pins s σ H _ I h) fun x s1 h1=>thn h1 fun itv s2 h2=>?_)
 refine byc fun zG_=>?_
 obtain⟨it,fp,tn,J,H2,e,I2,T,st2,f2,hw⟩:=h2
 subst e
 have hf:H2 s2.heap.objs.size=none:=I2.hok.fresh (le_refl _)
 obtain⟨W,⟨m0,w0⟩,turn⟩:=hw _ hf
 refine zG_ ?_
 have hlt:=za9 (pins:=pins) (σ:=σ) (H:=H2) T st2
 refine wpAny_newObj_type ?_
 have I3:Inv X pins σ (upd H2 s2.heap.objs.size (.lst [])) { s2 with heap:=s2.heap.push { cls:=.type "list", dict:=none,data:=.seq ([]:List Value).toArray } }:=
  I2.laid (t':=s2.toks) (o:=.lst []) (fun b u e=>get?_push_of_some _ e) (le_refl _) ⟨zero_le _,[],0,.nil,Heap.get?_push_size _ rfl⟩
 have hsz:s2.heap.objs.size<(s2.heap.push { cls:=.type "list", dict:=none,data:=.seq ([]:List Value).toArray }).objs.size:=by rw[Heap.size_push];exact Nat.lt_succ_self _
 refine Xn (s0:=s0) (QQ:=Q) (W:=W) (m0:=m0) S hc (hl σ I2.len) (hσ σ) hg ht he I3 T (T.keep _ _ _ st2 fun b hb o e=>get?_push_of_some _ e) (fun b hb=>?_) (fun b hb=>Nat.lt_trans (hlt b hb) hsz) hsz w0 turn fun s' ⟨m,hn⟩ hq=>⟨m,hn,fun h' sb=>let ⟨v,H',I',r',q',_⟩:=hq h' sb;⟨v,H',I',r',q'⟩⟩
 refine byc fun zG_=>?_
 obtain⟨f0,f1,f2,f3⟩:=f2 b hb
 refine zG_ ?_
 exact⟨by rw[zm (ne_of_lt (hlt b hb))];exact f0,f1,f2,f3⟩
theorem TN{i:Nat}{y:Str}{py spos:Pos}(hN:X.N.Nodup)(hiN:X.N[i]?=some y)(hy:X.env.scope.names.lookup y=some .local)
  (hsw:swapsWith (.ListComp elt [⟨tg,iter,ifs,0⟩] scope pos) (some (.Name y py)) spos.line X.env=pure true)
  (S:xU X scope) (hc:X.calm=true) (hl:∀σ:St,σ.length=X.N.length→(s0 σ).length=N'.length)
  (hσ:∀(σ:St) (i:Nat) (v:V),(s0 σ)[i]?=some (some v)→∃(x:Str) (j:Nat),N'[i]?=some x∧X.N[j]?=some x∧σ[j]?=some (some v)∧scope.names.lookup x=some .free)
  (hi:PI X tg iter wi) (hg:∀s H C fp,PG (X.comp scope N' s H C fp) tg g) (ht:∀s H C fp,PTs (X.comp scope N' s H C fp) ifs ti) (he:∀s H C fp,PE (X.comp scope N' s H C fp) elt te)
  (hs:∀x,foldedSetIterable iter X.env x=pure x:=by intro _;rfl):PS X (.Assign [.Name y py] (.ListComp elt [⟨tg,iter,ifs,0⟩] scope pos) spos) (zc4 (Jg s0 wi g ti te) (Zf i)):=by
 intro pins s σ H D I h
 rw[exec_Assign_Name_used _ _ _ _ hsw]
 refine wpAny_bind (wpAny_standAt (wpAny_bind ?_))
 show wpAny _ X.A (do let _ ← comprehension (.ListComp elt [⟨tg,iter,ifs,0⟩] scope pos) scope X.env _ (newList []) false (eval iter X.env) (some (assign (.Name y py) X.env))) _ _ s
 have hclos:=vX (scope:=scope) (env:=X.env) fun y hy hk=>Option.isSome_iff_exists.mpr (I.ok.has y.1 (S.free y hy hk))
 refine wpAny_bind (wpAny_mono (wpAny_comprehension_free (use:=some (assign (.Name y py) X.env)) (Q:=fun _ s'=>SP X pins D .next s') rfl hs hclos S.kind S.locs
  (thn (hi pins s σ H _ I h) fun x s1 h1=>thn h1 fun itv s2 h2=>?_)) (fun _ s' hq=>wpAny_pure (wpAny_pure hq)) fun _ _ e=>e)
 refine byc fun zG_=>?_
 obtain⟨it,fp,tn,J,H2,e,I2,T,st2,f2,hw⟩:=h2
 subst e
 have hf:H2 s2.heap.objs.size=none:=I2.hok.fresh (le_refl _)
 obtain⟨W,⟨m0,w0⟩,turn⟩:=hw _ hf
 refine zG_ ?_
 have hlt:=za9 (pins:=pins) (σ:=σ) (H:=H2) T st2
 refine wpAny_newObj_type ?_
 have I3:Inv X pins σ (upd H2 s2.heap.objs.size (.lst [])) { s2 with heap:=s2.heap.push { cls:=.type "list", dict:=none,data:=.seq ([]:List Value).toArray } }:=
  I2.laid (t':=s2.toks) (o:=.lst []) (fun b u e=>get?_push_of_some _ e) (le_refl _) ⟨zero_le _,[],0,.nil,Heap.get?_push_size _ rfl⟩
 have hsz:s2.heap.objs.size<(s2.heap.push { cls:=.type "list", dict:=none,data:=.seq ([]:List Value).toArray }).objs.size:=by rw[Heap.size_push];exact Nat.lt_succ_self _
 refine Xn (s0:=s0) (QQ:=fun x H1=>Zf i x σ H1 D.nx) (W:=W) (m0:=m0) S hc (hl σ I2.len) (hσ σ) hg ht he I3 T (T.keep _ _ _ st2 fun b hb o e=>get?_push_of_some _ e) (fun b hb=>?_) (fun b hb=>Nat.lt_trans (hlt b hb) hsz) hsz w0 turn fun s' ⟨m,hn⟩ hq=>?_
 ·refine byc fun zG_=>?_
  obtain⟨f0,f1,f2,f3⟩:=f2 b hb
  refine zG_ ?_
  exact⟨by rw[zm (ne_of_lt (hlt b hb))];exact f0,f1,f2,f3⟩
 ·refine byc fun zG_=>?_
  obtain⟨v,H5,I5,r5,q5,hC⟩:=hq s'.heap (.refl ..)
  refine zG_ ?_
  have I5:Inv X pins σ H5 s':=I5
  show wpAny _ X.A (assign (.Name y py) X.env _) _ _ s'
  refine wpAny_assign_Name (XW I5 hN hiN (.inl hy) r5 (fun s6 I6 z_=>?_) (.inr hy))
  obtain⟨a,sb,ha⟩:=z_
  have lt3:=I3.lt
  have ca:∀x c,X.env.cells.lookup x=some c→c<(s2.heap.push { cls:=.type "list", dict:=none,data:=.seq ([]:List Value).toArray }).objs.size:=fun x c e=>by
   obtain⟨v,z⟩:=I3.cell x c e
   exact z.lt
  have hne:(s2.heap.push { cls:=.type "list", dict:=none,data:=.seq ([]:List Value).toArray }).objs.size≠a:=by
   rcases ha with rfl|ha
   ·exact ne_of_gt lt3
   ·exact ne_of_gt (ca _ _ ha)
  refine⟨m,hn.sameBut sb hne,fun h' sb'=>⟨_,H5,?_,q5⟩⟩
  refine I6.turned (t':=s6.toks) (it:=(s2.heap.push { cls:=.type "list", dict:=none,data:=.seq ([]:List Value).toArray }).objs.size) (fun b o hb e=>(sb'.2 b hb).trans e) hC (ne_of_gt lt3) (.inr I3.sz) (fun x c e=>ne_of_lt (ca x c e)) fun p hp=>?_
  exact ne_of_lt (Heap.lt_size (I3.pin p hp).1)
end
noncomputable def vd(set:FG)(ft:FT)(fe:FE)(τ:DS):List D→Rs (List D)
 |[]=>.ok []
 |d::r=>match set d τ with
  |.ok τ1=>match ft τ1 with
   |.ok true=>match fe τ1 with
    |.ok x=>(vd set ft fe τ r).bind fun xs=>.ok (x::xs)
    |_=>.no
   |.ok false=>vd set ft fe τ r
   |_=>.no
  |_=>.no
noncomputable def jO:Option (Option Sl)→Option Sl
 | some (some (.val d))=>some (.val d)
 | some (some (.obr c fs))=>some (.obr c fs)
 | some (some (.obj _ c fs))=>some (.obr c fs)
 |_=>none
noncomputable def wP(k:Nat)(idx:List Nat)(τ:DS):DS:=List.replicate k none++idx.map fun j=>jO τ[j]?
noncomputable def w5(k:Nat)(idx:List Nat)(σ:St):St:=List.replicate k none++idx.map fun j=>(σ[j]?).join
noncomputable def wG(k:Nat)(idx:List Nat)(fi:FA)(set:FG)(ft:FT)(fe:FE):FA:=fun τ=>(fi τ).bind fun ds=>match vd set ft fe (wP k idx τ) ds with
 |.ok xs=>if xs.length≤sizeLine then .ok xs else .no
 |_=>.no
noncomputable def jp(τ:DS):Prop:=(∀(i:Nat) es,τ[i]?≠some (some (.own es)))∧∀(i n:Nat) c fs,τ[i]?≠some (some (.obj n c fs))
structure Wt(set:FG):Prop where
 ov:∀d e τ τ1,set e τ=.ok τ1→set d τ1=set d τ
 no:∀d τ τ1,set d τ=.ok τ1→jp τ→jp τ1
theorem QN{τ:DS}{i:Nat}{d:D}(h:jp τ):jp (τ.set i (some (.val d))):=⟨fun j es e=>by
 by_cases hij:i=j
 ·subst hij
  rw[getElem?_set] at e
  simp only[if_true] at e
  split at e <;> cases e
 ·rw[getElem?_set_ne hij] at e;exact h.1 j es e,fun j n c fs e=>h.2 j n c fs (yL (s:=some (.val d)) rfl rfl e).2⟩
theorem vp(i:Nat):Wt (gNm i):=⟨fun d e τ τ1 h=>by
 unfold gNm at h ⊢;cases h;rw[List.set_set],fun d τ τ1 h n=>by unfold gNm at h;cases h;exact QN n⟩
theorem ut(k:Nat)(idx:List Nat)(τ:DS):∀(i:Nat) es,(wP k idx τ)[i]?≠some (some (.own es)):=fun i es e=>by
 unfold wP at e
 by_cases hi:i<k
 ·rw[getElem?_append_left (by simpa using hi),getElem?_replicate] at e
  simp[hi] at e
 ·rw[getElem?_append_right (by simpa using hi),getElem?_map] at e
  cases q:idx[i-(List.replicate k (none:Option Sl)).length]? with
  |none=>rw[q] at e;cases e
  |some j=>
   rw[q] at e
   simp only[Option.map_some,Option.some.injEq] at e
   unfold jO at e
   split at e <;> cases e
theorem jF(k:Nat)(idx:List Nat)(τ:DS):∀(i n:Nat) c fs,(wP k idx τ)[i]?≠some (some (.obj n c fs)):=fun i n c fs e=>by
 unfold wP at e
 by_cases hi:i<k
 ·rw[getElem?_append_left (by simpa using hi),getElem?_replicate] at e
  simp[hi] at e
 ·rw[getElem?_append_right (by simpa using hi),getElem?_map] at e
  cases q:idx[i-(List.replicate k (none:Option Sl)).length]? with
  |none=>rw[q] at e;cases e
  |some j=>
   rw[q] at e
   simp only[Option.map_some,Option.some.injEq] at e
   unfold jO at e
   split at e <;> cases e
theorem wC(k:Nat)(idx:List Nat)(τ:DS):jp (wP k idx τ):=⟨ut k idx τ,jF k idx τ⟩
theorem Me{k:Nat}{idx:List Nat}{τ:DS}{i:Nat}{c:Str}{fs:List (Str×D)}(e:(wP k idx τ)[i]?=some (some (.obr c fs))):∃j,k≤i∧idx[i-k]?=some j∧((∃n,τ[j]?=some (some (.obj n c fs)))∨τ[j]?=some (some (.obr c fs))):=by
 unfold wP at e
 by_cases hi:i<k
 ·rw[getElem?_append_left (by simpa using hi),getElem?_replicate] at e
  simp[hi] at e
 ·rw[getElem?_append_right (by simpa using hi),getElem?_map] at e
  simp only[List.length_replicate] at e
  cases q:idx[i-k]? with
  |none=>rw[q] at e;cases e
  |some j=>
   rw[q] at e
   simp only[Option.map_some,Option.some.injEq] at e
   unfold jO at e
   split at e <;> cases e
   ·exact⟨j,by lia,rfl,.inr (by assumption)⟩
   ·exact⟨j,by lia,rfl,.inl ⟨_,by assumption⟩⟩
theorem ObsOk.read{K:Frag}{F H:Hp}{τ:DS}{σ:St}(n:jp τ)(h:∀(i:Nat) (c:Str) (fs:List (Str×D)),τ[i]?=some (some (.obr c fs))→∃a C dx vs,σ[i]?=some (some (.ref a))∧H a=some (.ins C dx vs)∧nsIn K mainGlobals c=some (some (.ref C))∧Flds K F H c fs vs):ObsOk K F τ σ H:=
 ⟨fun i m c fs h=>absurd h (n.2 i m c fs),fun i j m c c' fs a _ h=>absurd h (n.2 i m c fs),h,fun i j m c c' fs a a' l _ h=>absurd h (n.2 i m c fs),fun i j c ds a l _ h=>absurd h (n.1 j ds)⟩
theorem RV.free_upd{K:Frag}{F H:Hp}{τ:DS}{σ:St}{p:Addr}{o:HO}(R:RV K F τ σ H)(n:jp τ)(hp:F p=none)(hl:H p=none∨∃vs,H p=some (.lst vs))(hq:∀(i:Nat) (c:Str) (a:Addr),ObS τ[i]? c→σ[i]?=some (some (.ref a))→p∉Lof H c a)(ho:∀a,o≠.own a:=by intro _ h;cases h):RV K F τ σ (upd H p o):=
 ⟨fun b u e=>by
  have:b≠p:=fun z=>by subst z;rw[hp] at e;cases e
  rw[zm this];exact R.fh b u e,R.len,R.val,fun i es e=>absurd e (n.1 i es),fun i j ds es a _ h=>absurd h (n.1 i ds),R.tt.step (fun _ _ e=>.inl e) (fun b o e n=>by
  have:b≠p:=fun z=>by
   subst z
   rcases hl with z|⟨vs,z⟩
   ·rw[z] at e;cases e
   ·rw[z] at e;cases e;exact n _ rfl
  rw[zm this];exact e) (wq ho),R.ob.updL hl hq⟩
theorem RS.apart{K:Frag}{B Z F H:Hp}{τ:DS}{σ:St}{p:Addr}(R:RS K B Z F τ σ H)(n:jp τ)(hp:B p=none):∀(i:Nat) (c:Str) (a:Addr),ObS τ[i]? c→σ[i]?=some (some (.ref a))→p∉Lof H c a:=fun i c a h e hm=>by
 rcases h with ⟨m,fs,h⟩|⟨fs,h⟩
 ·exact n.2 i m c fs h
 ·refine byc fun zG_=>?_
  obtain⟨C,dx,vs,h1,h2⟩:=R.ro i c fs a h e
  rw[Lof.ins (R.bh _ _ h1),VG (fun b ws e=>R.bh _ _ e) h2] at hm
  obtain⟨ws,h3⟩:=h2 p hm
  refine zG_ ?_
  rw[hp] at h3;cases h3
theorem RS.free_upd{K:Frag}{B Z F H:Hp}{τ:DS}{σ:St}{p:Addr}{vs:List V}(R:RS K B Z F τ σ H)(n:jp τ)(hb:B p=none)(hp:F p=none)(hl:H p=none∨∃vs,H p=some (.lst vs)):RS K B Z F τ σ (upd H p (.lst vs)):=
 ⟨R.rv.free_upd n hp hl (R.apart n hb),fun a o e=>by
  have:a≠p:=fun z=>by subst z;rw[hb] at e;cases e
  rw[zm this];exact R.bh a o e,R.zf,R.nb,fun i ds a h=>absurd h (n.1 i ds),fun i m c fs a h=>absurd h (n.2 i m c fs),fun a0 dx h1 h2 i m c fs h=>absurd h (n.2 i (m+1) c fs),R.ro⟩
theorem WB{K:Frag}{F H:Hp}{τ:DS}{σ:St}(k:Nat)(idx:List Nat)(R:RV K F τ σ H):RV K F (wP k idx τ) (w5 k idx σ) H:=by
 refine⟨R.fh,by simp[wP,w5],fun i d e=>?_,fun i es e=>absurd e (ut k idx τ i es),fun i j ds es a _ h=>absurd h (ut k idx τ i ds),R.tt,ObsOk.read (wC k idx τ) fun i c fs e=>?_⟩
 rotate_left
 ·refine byc fun zG_=>?_
  obtain⟨j,hk,hj,h⟩:=Me e
  refine zG_ ?_
  have es:∀v,σ[j]?=some (some v)→(w5 k idx σ)[i]?=some (some v):=fun v h=>by
   unfold w5
   rw[getElem?_append_right (by simpa using hk),getElem?_map]
   simp[hj,h]
  rcases h with ⟨n,h⟩|h
  ·refine byc fun zG_=>?_
   obtain⟨a,h1,C,dx,vs,h2,_,h4,h5,_⟩:=R.ob.at_ j n c fs h
   refine zG_ ?_
   exact⟨a,C,dx,vs,es _ h1,h2,h4,h5⟩
  ·refine byc fun zG_=>?_
   obtain⟨a,C,dx,vs,h1,h2,h4,h5⟩:=R.ob.rd j c fs h
   refine zG_ ?_
   exact⟨a,C,dx,vs,es _ h1,h2,h4,h5⟩
 unfold wP at e
 unfold w5
 by_cases hi:i<k
 ·rw[getElem?_append_left (by simpa using hi),getElem?_replicate] at e
  simp[hi] at e
 ·rw[getElem?_append_right (by simpa using hi),getElem?_map] at e
  rw[getElem?_append_right (by simpa using hi),getElem?_map]
  simp only[List.length_replicate] at e ⊢
  cases q:idx[i-k]? with
  |none=>rw[q] at e;cases e
  |some j=>
   rw[q] at e
   simp only[Option.map_some,Option.some.injEq] at e
   have:τ[j]?=some (some (.val d)):=by
    unfold jO at e
    split at e <;> cases e
    assumption
   obtain⟨v,h1,h2⟩:=R.val j d this
   exact⟨v,by simp[h1],h2⟩
theorem Jq{K:Frag}{F H:Hp}{τ:DS}{σ:St}(k:Nat)(idx:List Nat)(R:RV K F τ σ H):RS K H F F (wP k idx τ) (w5 k idx σ) H:=
 ⟨WB k idx R,Hh.refl H,Same.refl F,fun a o e=>.inl e,fun i ds a h=>absurd h (ut k idx τ i ds),fun i m c fs a h=>absurd h (jF k idx τ i m c fs),fun a0 dx h1 h2 i m c fs h=>absurd h (jF k idx τ i (m+1) c fs),fun i c fs a h e=>by
  refine byc fun zG_=>?_
  obtain⟨a',C,dx,vs,h1,h2,_,h5⟩:=(WB k idx R).ob.rd i c fs h
  refine zG_ ?_
  rw[e] at h1;cases h1
  exact⟨C,dx,vs,h2,fun l hl=>(h5.own hl).2⟩⟩
noncomputable def xu(H:Hp)(p:Addr):Hp:=fun b=>if b=p then none else H b
theorem we(H:Hp)(p:Addr):xu H p p=none:=by unfold xu;rw[if_pos rfl]
theorem wk{H:Hp}{p b:Addr}(h:b≠p):xu H p b=H b:=by unfold xu;rw[if_neg h]
theorem vY(H:Hp)(p:Addr)(o:HO):upd (xu H p) p o=upd H p o:=by
 funext b;unfold upd xu;split <;> rfl
theorem uc{F1 H1 F2 Hm F5 H5:Hp}{acc:Addr}{ls:List V}(a:Ext F1 H1 F2 Hm)(hm:Hm acc=none)(b:Ext F2 (upd Hm acc (.lst ls)) F5 H5):Ext F1 H1 F5 (xu H5 acc)∧F5 acc=none:=by
 have hf5:F5 acc=none:=by
  cases q:F5 acc with
  |none=>rfl
  |some o=>
   rcases b.nw acc o q with z|z
   ·rw[zI a.fh hm] at z;cases z
   ·rw[zo] at z;cases z
 have h1:H1 acc=none:=xq a.hh hm
 have ha:H5 acc=some (.lst ls):=b.hh acc _ zo
 refine⟨⟨a.ff.trans b.ff,fun c o e=>?_,fun c o e=>?_,fun c o e=>?_,fun t=>?_⟩,hf5⟩
 ·have n:c≠acc:=fun z=>by subst z;rw[h1] at e;cases e
  rw[wk n]
  exact((a.hh.trans (.of (yt hm))).trans b.hh) c o e
 ·have n:c≠acc:=fun z=>by subst z;rw[hf5] at e;cases e
  rw[wk n];exact b.fh c o e
 ·rcases b.nw c o e with z|z
  ·exact a.nw c o z
  ·have n:c≠acc:=fun z'=>by subst z';rw[zo] at z;cases z
   rw[zm n] at z
   exact .inr (xq a.hh z)
 ·have t2:=b.tt ((a.tt t).step (F':=F2) (H':=upd Hm acc (.lst ls)) (fun _ _ e=>.inl e) (fun c o e _=>by rw[zm (zA e hm)];exact e) (wq fun _ z=>nomatch z))
  exact t2.step (fun _ _ e=>.inl e) (fun c o e n=>by
   have:c≠acc:=fun z=>by subst z;rw[ha] at e;cases e;exact n _ rfl
   rw[wk this];exact e) fun d a e=>by
   unfold xu at e
   split at e
   ·cases e
   ·exact e
noncomputable def FreeOk(scope:Scope)(N:List Str):List Str→List Nat→Prop
 |[],[]=>True
 |x::xs,j::js=>N[j]?=some x∧scope.names.lookup x=some .free∧FreeOk scope N xs js
 |_,_=>False
theorem FreeOk.len{scope:Scope}{N:List Str}:∀{xs:List Str} {js:List Nat},FreeOk scope N xs js→xs.length=js.length
 |[],[],_=>rfl
 |_::xs,_::js,h=>by rw[length_cons,length_cons,FreeOk.len h.2.2]
theorem FreeOk.get{scope:Scope}{N:List Str}:∀{xs:List Str} {js:List Nat} {p j:Nat},FreeOk scope N xs js→js[p]?=some j→∃x,xs[p]?=some x∧N[j]?=some x∧scope.names.lookup x=some .free
 |[],[],_,_,_,e=>by simp at e
 |x::xs,i::js,0,j,h,e=>by simp at e;subst e;exact⟨x,rfl,h.1,h.2.1⟩
 |x::xs,i::js,p+1,j,h,e=>by
  obtain⟨y,h1,h2⟩:=FreeOk.get (p:=p) h.2.2 (by simpa using e)
  exact⟨y,by simpa using h1,h2⟩
noncomputable def uA(osc scope:Scope):Bool:=(match scope.kind with | .function=>true|_=>false)&&scope.names.all (fun y=>match y.2 with
 |.cell=>false
 |.local=>(match scope.names.lookup y.1 with|some .local=>true|_=>false)
 |.free=>(match osc.names.lookup y.1 with|some .cell=>true|some .free=>true|_=>false)
 |_=>true)
theorem wO{X:Cx}{scope:Scope}(h:uA X.env.scope scope=true):xU X scope:=by
 unfold uA at h
 rw[Bool.and_eq_true,List.all_eq_true] at h
 obtain⟨h1,h2⟩:=h
 refine⟨?_,fun y hy z=>?_,fun y hy z=>?_,fun y hy z=>?_⟩
 ·split at h1
  ·assumption
  ·cases h1
 ·have:=h2 y hy;rw[z] at this;cases this
 ·have:=h2 y hy;rw[z] at this
  simp only at this
  split at this
  ·assumption
  ·cases this
 ·have:=h2 y hy;rw[z] at this
  simp only at this
  split at this
  ·left;assumption
  ·right;assumption
  ·cases this
noncomputable def Tg(Y:Cx)(ifs:List Expr)(f:FT):Prop:=PTs Y ifs (tTs Y f)
theorem Vz{Y:Cx}:Tg Y [] (fun _=>.ok true):=fun pins s σ H Q I z_=>by obtain⟨F,τ,R,h⟩:=z_;exact Ju pins s σ H Q I (h F H (Ext.refl R.fh))
theorem uT{Y:Cx}{c:Expr}{f:FT}(h:PDT Y c f):Tg Y [c] f:=TK h
section
variable{X:Cx}{scope:Scope}{tn fr:List Str}{idx:List Nat}{tg iter elt:Expr}{ifs:List Expr}{pos:Pos}{fi:FA}{set:FG}{ft:FT}{fe:FE}
structure CWH(K:Frag)(set:FG)(ft:FT)(fe:FE)(t0:DS)(ds xs:List D)(F1 H1:Hp)(acc:Addr)(i:Nat)(σ1:St)(Hc F2 Hm:Hp)(τ1:DS)(dn rs:List D)(vs:List V):Prop where
 a1:Ext F1 H1 F2 Hm
 a2:Hm acc=none
 a3:Hc=upd Hm acc (.lst vs)
 a4:Reps K F2 dn vs
 a5:RS K H1 F1 F2 τ1 σ1 Hc
 a6:jp τ1
 a7:∀d,set d τ1=set d t0
 a8:vd set ft fe t0 (ds.drop i)=.ok rs
 a9:xs=dn++rs
theorem jR(hfr:FreeOk scope X.N fr idx)(σ:St)(i:Nat)(v:V)(h:(w5 tn.length idx σ)[i]?=some (some v)):∃(x:Str) (j:Nat),(tn++fr)[i]?=some x∧X.N[j]?=some x∧σ[j]?=some (some v)∧scope.names.lookup x=some .free:=by
 unfold w5 at h
 by_cases hi:i<tn.length
 ·rw[getElem?_append_left (by simpa using hi),getElem?_replicate] at h
  simp[hi] at h
 ·rw[getElem?_append_right (by simpa using hi),getElem?_map] at h
  simp only[List.length_replicate] at h
  cases q:idx[i-tn.length]? with
  |none=>rw[q] at h;cases h
  |some j=>
   rw[q] at h
   simp only[Option.map_some,Option.some.injEq] at h
   refine byc fun zG_=>?_
   obtain⟨x,h1,h2,h3⟩:=hfr.get q
   refine zG_ ?_
   refine⟨x,j,by rw[getElem?_append_right (by lia)];exact h1,h2,?_,h3⟩
   cases z:σ[j]? with
   |none=>rw[z] at h;cases h
   |some o=>rw[z] at h;simp at h;rw[h]
end
section
variable{prog:Program}{w:World}{A:Around}{E:Value→Shared→Prop}{s:Shared}{z TI TO i1 i2:Addr}{n1 n2:Nat}{P1 P2:Nat→Value→Prop}{st1 st2:Nat→Heap→Prop}{rd1 rd2:Heap→Prop}
end
theorem Tn{X:Cx}{pins:List (Addr×Obj)}{σ:St}{H:Hp}{s:Shared}{h':Heap}{t':Nat}{ch:List Addr}{p:Addr}{xs:List V}{its:List Value}(I:Inv X pins σ H s)(k:∀b o,b∉ch→s.heap.get? b=some o→h'.get? b=some o)(hf:∀b∈ch,XO X pins H b)
  (hp:s.heap.objs.size≤p) (ht:IsTup h' p its.toArray) (hv:Vals xs its) (hz:xs.length≤sizeLine) :
  Inv X pins σ (upd H p (.tup xs)) { s with heap:=h',toks:=t' }:=by
 have hn:H p=none:=I.hok.fresh hp
 have lt:∀{b:Addr} {o:Obj},s.heap.get? b=some o→b≠p:=fun e=>ne_of_lt (lt_of_lt_of_le (Heap.lt_size e) hp)
 refine I.step (g':=s.gens) (d':=s.drawn) (ch:=ch) (fun b hb=>?_) (fun b o _ _ hc e _=>k b o hc e) (fun b o _ _ hc e _=>⟨o.slots,k b o hc e⟩) (fun b o _ e n=>by rw[zm (lt e)];exact n)
  (fun b o hc e=>⟨o,k b o hc e⟩) (fun b ys e=>by rw[zm (zA e hn)];exact e) (fun b o u e=>by rw[zm (zA e hn)];exact e) (fun b ps e=>⟨#[],by rw[zm (zA e hn),e];simp⟩) (fun m hm=>?_) (fun b u e=>?_) I.bare
 ·refine byc fun zG_=>?_
  obtain⟨f0,f1,f2,f3,f4,f5⟩:=hf b hb
  refine zG_ ?_
  exact⟨f3,f1,f4,f5⟩
 ·refine byc fun zG_=>?_
  obtain⟨o,es,ep,ho,r⟩:=hm
  refine zG_ ?_
  exact⟨o,es,ep,k _ o (fun z=>(hf _ z).2.1 rfl) ho,r⟩
 ·by_cases hb:b=p
  ·subst hb;rw[zo] at e;cases e
   exact⟨hz,its,hv,ht⟩
  ·rw[zm hb] at e
   refine(I.hok b u e).stay (fun c v hc q=>k c v ?_ q) (fun c q=>by rw[zm (zA q hn)];exact q) fun c ys q=>by rw[zm (zA q hn)];exact q
   intro z
   rcases hc with q|q
   ·subst q;rw[(hf c z).1] at e;cases e
   ·rw[(hf c z).1] at q;cases q
noncomputable def zE(c:Nat):D:=.str ⟨#[c]⟩
noncomputable def wR(x:Str):List D:=x.cps.toList.map zE
noncomputable def Its(x:Str):It:=⟨fun i _=>i<x.cps.size,fun i H y H'=>H'=H∧∃c,x.cps[i]?=some c∧y=.str ⟨#[c]⟩,fun i _=>x.cps.size≤i⟩
theorem Gn{P:Program}{w:World}{K:Frag}{tg:Expr}{it:Addr}{x:Str}{t:Tok}{ty:String}(hty:ty = "str_ascii_iterator" ∨ ty = "str_iterator"):Vf P w K tg (Its x) [it] it (fun k h=>h.IsStrIter it ty x t k) where
 mem:=by simp
 obj:=fun i h ⟨o,e,c,d⟩ b hb=>by
  have z:b=it:=by simpa using hb
  subst z
  exact⟨o,e,fun v z=>by rw[d] at z;cases z⟩
 keep:=fun i h h' ⟨o,e,r⟩ k=>⟨o,k it (by simp) o e,r⟩
 item:=by
  intro X hP hw hK hc i pins s σ H E I hf st hg
  subst hP hw hK
  refine byc fun zG_=>?_
  obtain⟨f0,f1,f2,f3,f4,f5⟩:=hf it (by simp)
  refine zG_ ?_
  have hh:X.A.handled=none:=I.ok.hd hc
  have W:Walks X.prog X.w X.A it [it] [it] x.cps.size (SignAt x) (fun i h=>h.IsStrIter it ty x t i):=by
   rcases hty with rfl|rfl
   ·exact Walks.strAscii hh it x t
   ·exact Walks.strWide hh it x t
  refine W.item i s _ _ hg st fun v h' tk hv st' kk=>?_
  refine byc fun zG_=>?_
  obtain⟨c,u,ec,rfl⟩:=hv
  have I1:Inv X pins σ H { s with heap:=h',toks:=tk }:=I.turned (fun b o hb e=>kk b o (by simpa using hb) e) f0 f1 f3 f4 f5
  obtain⟨o,e,cc,d⟩:=id st'
  refine zG_ ?_
  exact⟨_,rfl,V2 (s:={ s with heap:=h',toks:=tk }) e cc d (by rcases hty with rfl|rfl <;> decide) ⟨.str ⟨#[c]⟩,H,I1,⟨u,rfl⟩,⟨rfl,c,ec,rfl⟩,st',fun b hb=>(hf b hb).1⟩⟩
 done:=by
  intro X hP hw hK hc i pins s σ H E I hf st hg
  subst hP hw hK
  refine byc fun zG_=>?_
  obtain⟨f0,f1,f2,f3,f4,f5⟩:=hf it (by simp)
  refine zG_ ?_
  have hh:X.A.handled=none:=I.ok.hd hc
  have hx:x.cps[i]?=none:=by have:x.cps.size≤i:=hg;simp;lia
  rcases hty with rfl|rfl
  ·exact wpAny_pyNext_ascii_end hh st hx fun h' eb=>⟨rfl,I.turned (t':=s.toks) (fun b o hb e=>eb b o hb e) f0 f1 f3 f4 f5⟩
  ·exact wpAny_pyNext_wide_end hh st hx fun h' eb=>⟨rfl,I.turned (t':=s.toks) (fun b o hb e=>eb b o hb e) f0 f1 f3 f4 f5⟩
 self:=fun _ _ _ _ _ st h=>by
  rcases hty with rfl|rfl
  ·exact wpAny_pyIter_striter_ascii st h
  ·exact wpAny_pyIter_striter_wide st h
section
variable{X:Cx}{pos:Pos}{e tg:Expr}{es:List Expr}{fe:FE}{fs:FA}
theorem zi1{K:Frag}{F1:Hp}{x:Str}:Ja K (Its x) F1 (wR x):=fun i F H f1 f2=>by
 have hl:(wR x).length=x.cps.size:=by simp[wR]
 refine⟨fun h=>by rw[hl] at h;exact h,fun d hd=>?_⟩
 have hi:i<x.cps.size:=by have:=(List.getElem?_eq_some_iff.mp hd).1;rw[hl] at this;exact this
 refine⟨hi,fun y H' yy=>?_⟩
 refine byc fun zG_=>?_
 obtain⟨e1,c,ec,rfl⟩:=yy
 refine zG_ ?_
 subst e1
 refine⟨F,Ext.refl f2,?_⟩
 have:d=zE c:=by
  simp only[wR,getElem?_map] at hd
  have e2:x.cps.toList[i]?=some c:=by simpa using ec
  rw[e2] at hd
  exact(Option.some.inj hd).symm
 subst this
 simp only[zE,Rep]
noncomputable def Itd(hi:Int)(n:Nat):It:=⟨fun i _=>i<n,fun i H x H'=>H'=H∧x=.int (hi-i),fun i _=>n≤i⟩
theorem Vj{P:Program}{w:World}{K:Frag}{tg:Expr}(it:Addr)(hi:Int)(n:Nat):Vf P w K tg (Itd hi n) [it] it (fun i h=>IsRangeIter h it (hi+(i:Nat)*(-1)) ((n:Int)-(i:Nat)) (-1)) where
 mem:=by simp
 obj:=fun i h st b hb=>by
  have e:b=it:=by simpa using hb
  subst e
  exact⟨_,st,fun v z=>by
   have z':Data.fields _=Data.cell v:=z
   cases z'⟩
 keep:=fun i h h' st k=>k it (by simp) _ st
 item:=by
  intro X hP hw hK hc i pins s σ H E I hf st hg
  subst hP hw hK
  refine byc fun zG_=>?_
  obtain⟨f0,f1,f2,f3,f4,f5⟩:=hf it (by simp)
  refine zG_ ?_
  have W:=Walks.range (prog:=X.prog) (w:=X.w) (I.ok.hd hc) it hi (-1) n
  refine W.item i s _ _ hg st fun v h' tk hv st' kk=>?_
  obtain⟨t,rfl⟩:=hv
  have I1:Inv X pins σ H { s with heap:=h',toks:=tk }:=I.turned (fun b o hb e=>kk b o (by simpa using hb) e) f0 f1 f3 f4 f5
  refine⟨_,rfl,V2 (s:={ s with heap:=h',toks:=tk }) (n := "range_iterator") st' rfl rfl (by decide) ⟨.int (hi-i),H,I1,⟨t,?_⟩,⟨rfl,rfl⟩,st',fun b hb=>(hf b hb).1⟩⟩
  congr 1
  lia
 done:=by
  intro X hP hw hK hc i pins s σ H E I hf st hg
  subst hP hw hK
  refine byc fun zG_=>?_
  obtain⟨f0,f1,f2,f3,f4,f5⟩:=hf it (by simp)
  refine zG_ ?_
  exact wpAny_pyNext_range_end (I.ok.hd hc) st (by have:n≤i:=hg;lia) fun h' eb=>⟨rfl,I.turned (t':=s.toks) (fun b o hb e=>eb b o hb e) f0 f1 f3 f4 f5⟩
 self:=fun _ _ _ _ _ st h=>wpAny_pyIter_rangeiter st h
end
section
variable{X:Cx}{pos:Pos}{e tg:Expr}{es:List Expr}{fe:FE}{fs:FA}
noncomputable def len1:D→Rs D
 |.lst ds=>.ok (.int ds.length)
 |.tup ds=>.ok (.int ds.length)
 |.scr ns=>.ok (.int ns.length)
 |.str x=>if x.length≤sizeLine then .ok (.int x.length) else .no
 |_=>.no
noncomputable def yB:List D→Rs D
 |[d]=>len1 d
 |_=>.no
theorem yU:Qd X (.builtin "len") yB:=⟨_,call_len_seq.or Va,fun F H vs ds Q fh r h=>by
 match ds,r,h with
 |[d],r,h=>
  obtain⟨v,rfl,q⟩:=r.one
  cases d with
  |lst ds=>
   simp only[Rep] at q;obtain⟨a,ws,rfl,e1,t⟩:=q
   refine .inl ⟨a,ws,rfl,.inl (SqL.of (fh _ _ e1)),?_⟩
   rw[← t.length];exact h _ F H (Ext.refl fh) (by simp only[Rep])
  |tup ds=>
   simp only[Rep] at q;obtain⟨a,ws,rfl,e1,t⟩:=q
   refine .inl ⟨a,ws,rfl,.inr (Same.seqT fh e1),?_⟩
   rw[← t.length];exact h _ F H (Ext.refl fh) (by simp only[Rep])
  |scr ns=>
   simp only[Rep] at q;obtain⟨a,rfl,e1⟩:=q
   refine .inl ⟨a,_,rfl,.inl (fh.seq e1),?_⟩
   rw[length_map];exact h _ F H (Ext.refl fh) (by simp only[Rep])
  |str x=>
   simp only[Rep] at q;subst q
   obtain⟨z,h⟩:=yE h
   exact .inr ⟨x,rfl,z,h _ F H (Ext.refl fh) (by simp only[Rep])⟩
  |_=>exact h.elim
 |[],_,h=>exact h.elim
 |_::_::_,_,h=>exact(show False from h).elim⟩
noncomputable def j9(ds:List D):Rs D:=match XM ds with
 | some (i,j)=>.ok (.int (if j<i then j else i))
 |none=>.no
noncomputable def Y2(ds:List D):Rs D:=match XM ds with
 | some (i,j)=>.ok (.int (if j > i then j else i))
 |none=>.no
theorem W9(hc:X.calm=true):Qd X (.builtin "min") j9:=⟨_,Gf hc,fun F H vs ds Q fh r h=>by
 unfold j9 at h
 cases q:XM ds with
 |none=>rw[q] at h;exact h.elim
 |some ij=>
  refine byc fun zG_=>?_
  obtain⟨i,j⟩:=ij
  rw[q] at h
  have e:=W0 q
  subst e
  obtain⟨v,w,rfl,r1,r2⟩:=r.two
  refine zG_ ?_
  simp only[Rep] at r1 r2;subst r1;subst r2
  exact⟨i,j,rfl,h _ F H (Ext.refl fh) (by simp only[Rep])⟩⟩
theorem LP(hc:X.calm=true):Qd X (.builtin "max") Y2:=⟨_,Gg hc,fun F H vs ds Q fh r h=>by
 unfold Y2 at h
 cases q:XM ds with
 |none=>rw[q] at h;exact h.elim
 |some ij=>
  refine byc fun zG_=>?_
  obtain⟨i,j⟩:=ij
  rw[q] at h
  have e:=W0 q
  subst e
  obtain⟨v,w,rfl,r1,r2⟩:=r.two
  refine zG_ ?_
  simp only[Rep] at r1 r2;subst r1;subst r2
  exact⟨i,j,rfl,h _ F H (Ext.refl fh) (by simp only[Rep])⟩⟩
theorem rangeSize_down(a b:Int):Builtin.Range.rangeSize a b (-1)=((a-b).toNat:Int):=by
 unfold Builtin.Range.rangeSize
 rw[if_neg (by decide)]
 by_cases h:a > b
 ·rw[if_pos h,show(- -1:Int)=1 from rfl,Int.ediv_one];lia
 ·rw[if_neg h];lia
theorem small_down{a b:Int}(ha : -(2 ^ 62)≤a)(ha':a<2 ^ 62)(hb : -(2 ^ 62)≤b)(hb':b<2 ^ 62):Builtin.Range.small a b (-1)=true:=by
 unfold Builtin.Range.small
 rw[rangeSize_down]
 simp only[Builtin.Range.rangeFitsLong,Bool.and_eq_true,Bool.or_eq_true,decide_eq_true_eq,beq_iff_eq,show ¬ (-1:Int) > 0 by decide,if_false]
 lia
noncomputable def iRngD(ta:TA):TI:=fun σ H R=>ta σ H fun vs H1=>∃i j:Int,vs=[.int i,.int j,.int (-1)]∧(-(2 ^ 62)≤i∧i<2 ^ 62∧-(2 ^ 62)≤j∧j<2 ^ 62)∧R (Itd i (i-j).toNat) H1
theorem Qs{a b c:Expr}{ta:TA}{p pos:Pos}(hg:Gl X "range")(hm:X.mg "range" = none)(ha:PA X [a,b,c] ta)(hs:starEach [a,b,c] X.env=[(false,eval a X.env),(false,eval b X.env),(false,eval c X.env)]:=by rfl)(hs2:starEach [b,c] X.env=[(false,eval b X.env),(false,eval c X.env)]:=by rfl) :
  PI X tg (.Call (.Name "range" p) [a,b,c] [] pos) (iRngD ta):=by
 intro pins s σ H R I h
 refine Call_ (uv I hg hm boot_range (PyProof.Rows.callWith_type1 (thn (ha pos pins s σ H _ I h) fun us s1 z_=>?_) (by rw[hs,hs2]) (by rw[hs2];rfl)))
 refine byc fun zG_=>?_
 obtain⟨vs,H1,I1,r1,q1⟩:=z_
 obtain⟨i,j,e,⟨q1,q2,q3,q4⟩,q⟩:=q1
 refine zG_ ?_
 subst e
 cases r1 with
 |cons r rr=>
  cases rr with
  |cons r' rr=>
   cases rr with
   |cons r'' rr=>
    cases rr
    refine byc fun zG_=>?_
    obtain⟨t,rfl⟩:=r
    obtain⟨t',rfl⟩:=r'
    obtain⟨t'',rfl⟩:=r''
    refine zG_ ?_
    refine call_range_3 (by decide) ?_ (.inl (PyProof.noPylong_small (by decide)))
    have I2:Inv X pins σ H1 { s1 with heap:=s1.heap.push { cls:=.type "range", data:=.fields #[.int i t,.int j t',.int (-1) t''] },toks:=s1.toks }:=I1.kept fun b o e=>get?_push_of_some _ e
    refine wpAny_pyIter_range (IsRange.new ..) (small_down q1 q2 q3 q4) ?_
    refine⟨(s1.heap.push { cls:=.type "range", data:=.fields #[.int i t,.int j t',.int (-1) t''] }).objs.size,[(s1.heap.push { cls:=.type "range", data:=.fields #[.int i t,.int j t',.int (-1) t''] }).objs.size],_,_,H1,rfl,
     I2.kept (t':=s1.toks) fun b o e=>get?_push_of_some _ e,Vj _ i (i-j).toNat,?_,fun b hb=>?_,q⟩
    ·have e1:i+((0:Nat):Int)*(-1)=i:=by simp
     have e2:(((i-j).toNat:Nat):Int)-((0:Nat):Int)=Builtin.Range.rangeSize i j (-1):=by rw[rangeSize_down];lia
     show IsRangeIter _ _ (i+((0:Nat):Int)*(-1)) ((((i-j).toNat:Nat):Int)-((0:Nat):Int)) (-1)
     rw[e1,e2]
     exact Heap.get?_push_size _ rfl
    ·have e:b=(s1.heap.push { cls:=.type "range", data:=.fields #[.int i t,.int j t',.int (-1) t''] }).objs.size:=by simpa using hb
     subst e
     exact I2.fpOk (le_refl _) (I2.hok.fresh (le_refl _))
noncomputable def ZT(hi:Int)(n:Nat):List D:=(List.range n).map fun (k:Nat)=>D.int (hi-k)
theorem LC{K:Frag}{F1:Hp}{lo:Int}{n:Nat}:Ja K (Itd lo n) F1 (ZT lo n):=fun i F H f1 f2=>by
 have hl:(ZT lo n).length=n:=by simp[ZT]
 refine⟨fun h=>by rw[hl] at h;exact h,fun d hd=>?_⟩
 have hi:i<n:=by have:=(List.getElem?_eq_some_iff.mp hd).1;rw[hl] at this;exact this
 refine⟨hi,fun x H' y=>?_⟩
 obtain⟨e1,y⟩:=y
 subst e1
 refine⟨F,Ext.refl f2,?_⟩
 simp[ZT,hi] at hd
 subst hd
 simp only[Rep];exact y
noncomputable def VX:List D→Option (Int×Int)
 | [.int i,.int j,.int (-1)]=>some (i,j)
 |_=>none
theorem MO{ds:List D}{i j:Int}(h:VX ds=some (i,j)):ds=[.int i,.int j,.int (-1)]:=by
 unfold VX at h;split at h <;> cases h;rfl
noncomputable def Q4(fs:FA):FA:=fun τ=>(fs τ).bind fun ds=>match VX ds with
 | some (i,j)=>if (-(2 ^ 62)≤i∧i<2 ^ 62)∧-(2 ^ 62)≤j∧j<2 ^ 62 then .ok (ZT i (i-j).toNat) else .no
 |none=>.no
theorem UB{a b c:Expr}{p:Pos}(hg:Gl X "range")(hm:X.mg "range" = none)(ha:PDA X [a,b,c] fs)(hs:starEach [a,b,c] X.env=[(false,eval a X.env),(false,eval b X.env),(false,eval c X.env)]:=by rfl)(hs2:starEach [b,c] X.env=[(false,eval b X.env),(false,eval c X.env)]:=by rfl) :
  PDI X tg (.Call (.Name "range" p) [a,b,c] [] pos) (Q4 fs):=
 PI.imp (Qs hg hm ha hs hs2) fun σ H R z_=>by
  refine byc fun zG_=>?_
  obtain⟨F,τ,Rv,h⟩:=z_
  refine zG_ ?_
  refine tAs.of Rv h.bind fun ds vs F1 H1 g x R1 r=>?_
  cases q1:VX ds with
  |none=>rw[q1] at g;exact g.elim
  |some ij=>
   refine byc fun zG_=>?_
   obtain⟨i,j⟩:=ij
   rw[q1] at g
   have e:=MO q1
   subst e
   simp only[Reps] at r
   obtain⟨v,r1,e1,q,w,r2,e2,q',u,r3,e3,q'',e4⟩:=r
   refine zG_ ?_
   simp only[Rep] at q q' q'';subst q q' q'' e4 e3 e2 e1
   obtain⟨z,g⟩:=yE g
   exact⟨i,j,rfl,⟨z.1.1,z.1.2,z.2.1,z.2.2⟩,g _ F1 H1 x LC⟩
noncomputable def MtD(X:Cx)(id:String)(g:D→List D→Rs D):Prop:=∃r,MtR X id r∧∀F H v vs d ds Q,Same F H→Rep X.K F d v→Reps X.K F ds vs→Ok X (g d ds) (Ev X.K F H Q)→r v vs H Q
noncomputable def XJ(T:String):D→Bool
 |.str _=>T = "str"
 |.int _=>T = "int"
 |.lst _=>T = "list"
 |.scr _=>T = "list"
 |_=>false
noncomputable def U2(T:String)(g:D→List D→Rs D)(fo:FE):FE:=fun τ=>(fo τ).bind fun d=>if XJ T d=true then g d [] else .no
theorem zb9{F H:Hp}{d:D}{v:V}{T:String}(fh:Same F H)(r:Rep X.K F d v)(h:XJ T d=true):tyV X.K T v H:=by
 cases d with
 |str x=>simp only[Rep] at r;subst r;show T = "str"; simpa[XJ] using h
 |int x=>simp only[Rep] at r;subst r;show T = "int"; simpa[XJ] using h
 |lst ds=>simp only[Rep] at r;obtain⟨a,vs,rfl,e,t⟩:=r;exact .inl ⟨by simpa[XJ] using h,vs,SqL.of (fh _ _ e)⟩
 |scr ds=>simp only[Rep] at r;obtain⟨a,rfl,e⟩:=r;exact .inl ⟨by simpa[XJ] using h,_,fh.seq e⟩
 |_=>simp[XJ] at h
theorem ok_if{X:Cx}{α:Type}{c:Prop}[Decidable c]{r:Rs α}{P:α→Prop}(h:Ok X (if c then r else .no) P):c∧Ok X r P:=by
 by_cases z:c
 ·rw[if_pos z] at h;exact⟨z,h⟩
 ·rw[if_neg z] at h;exact h.elim
theorem JA{T id:String}{name:Str}{o:Expr}{apos cpos:Pos}{fo:FE}{g:D→List D→Rs D}(pa:PlainAttrs T)(slot:Slot T name id)(hty:typeOf (.builtin id)=pure (.type "method_descriptor"))(hm:MtD X id g)(ho:PDE X o fo)
  (hbase:attributeBase o name X.env (eval o X.env)=eval o X.env:=by rfl) (hline:(apos.endLine==cpos.line)=true:=by rfl):PDE X (.Call (.Attribute o name apos) [] [] cpos) (U2 T g fo):=by
 obtain⟨r,h1,h2⟩:=hm
 exact PE.imp (GT pa slot hty h1 ho hbase hline) fun σ H Q z_=>by
  refine byc fun zG_=>?_
  obtain⟨Fz,τ,R,h⟩:=z_
  refine zG_ ?_
  refine tE.of R h.bind fun d v F1 H1 q x R1 rr=>?_
  obtain⟨z,q⟩:=ok_if q
  exact⟨zb9 R1.fh rr z,h2 F1 H1 v [] d [] Q R1.fh rr Reps.nil (q.imp fun d e=>e.ext x)⟩
noncomputable def upD:D→List D→Rs D
 |.str x,[]=>if x.length≤5000000 then .ok (.str (Txt.upper x)) else .no
 |_,_=>.no
noncomputable def loD:D→List D→Rs D
 |.str x,[]=>if x.length≤5000000 then .ok (.str (Txt.lower x)) else .no
 |_,_=>.no
theorem mt_up:MtR X "str.upper" (fun v vs H Q=>∃x,v=.str x∧vs=[]∧x.length≤5000000∧Q (.str (Txt.upper x)) H):=by
 intro pins s σ H v vs u us Q I r rs h
 refine byc fun zG_=>?_
 obtain⟨x,rfl,rfl,hx,q⟩:=h
 obtain⟨t,rfl⟩:=r
 refine zG_ ?_
 cases rs
 exact SC.upper (fit_upper (by lia)) ⟨.str (Txt.upper x),H,I.tok _,⟨_,rfl⟩,q⟩
theorem mt_lo:MtR X "str.lower" (fun v vs H Q=>∃x,v=.str x∧vs=[]∧x.length≤5000000∧Q (.str (Txt.lower x)) H):=by
 intro pins s σ H v vs u us Q I r rs h
 refine byc fun zG_=>?_
 obtain⟨x,rfl,rfl,hx,q⟩:=h
 obtain⟨t,rfl⟩:=r
 refine zG_ ?_
 cases rs
 exact SC.lower (fit_lower (by lia)) ⟨.str (Txt.lower x),H,I.tok _,⟨_,rfl⟩,q⟩
theorem md_up:MtD X "str.upper" upD:=⟨_,mt_up,fun F H v vs d ds Q fh r rs h=>by
 cases d with
 |str x=>
  cases ds with
  |nil=>
   simp only[Rep] at r;subst r
   simp only[Reps] at rs;subst rs
   obtain⟨z,h⟩:=yE h
   exact⟨x,rfl,rfl,z,h _ F H (Ext.refl fh) (by simp only[Rep])⟩
  |cons a b=>exact h.elim
 |_=>cases ds <;> exact h.elim⟩
theorem md_lo:MtD X "str.lower" loD:=⟨_,mt_lo,fun F H v vs d ds Q fh r rs h=>by
 cases d with
 |str x=>
  cases ds with
  |nil=>
   simp only[Rep] at r;subst r
   simp only[Reps] at rs;subst rs
   obtain⟨z,h⟩:=yE h
   exact⟨x,rfl,rfl,z,h _ F H (Ext.refl fh) (by simp only[Rep])⟩
  |cons a b=>exact h.elim
 |_=>cases ds <;> exact h.elim⟩
theorem QC{o:Expr}{apos cpos:Pos}{fo:FE}(ho:PDE X o fo)(hbase:attributeBase o "upper" X.env (eval o X.env)=eval o X.env:=by rfl)(hline:(apos.endLine==cpos.line)=true:=by rfl):PDE X (.Call (.Attribute o "upper" apos) [] [] cpos) (U2 "str" upD fo):=
 JA F.plainAttrs_str F.slot_str_upper F.type_str_upper md_up ho hbase hline
theorem QE{o:Expr}{apos cpos:Pos}{fo:FE}(ho:PDE X o fo)(hbase:attributeBase o "lower" X.env (eval o X.env)=eval o X.env:=by rfl)(hline:(apos.endLine==cpos.line)=true:=by rfl):PDE X (.Call (.Attribute o "lower" apos) [] [] cpos) (U2 "str" loD fo):=
 JA F.plainAttrs_str F.slot_str_lower F.type_str_lower md_lo ho hbase hline
end
section
variable{X:Cx}{pos:Pos}{e tg:Expr}{es:List Expr}{fe:FE}{fs:FA}
end
section
variable{X:Cx}{pos:Pos}{e tg:Expr}{es:List Expr}{fe:FE}{fs:FA}
noncomputable def rSlS:V→Option Int→Option Int→Hp→VK→Prop:=fun x lo hi H Q=>∃z,x=.str z∧z.length≤sizeLine∧Q (.str (Txt.slice z lo hi)) H
theorem sl_str:SlR X rSlS:=by
 intro pins s σ H x v vl vu lo hi sl Q I rx hs pl pu h
 refine byc fun zG_=>?_
 obtain⟨z,rfl,hz,q⟩:=h
 obtain⟨t,rfl⟩:=rx
 refine zG_ ?_
 refine⟨"str", _,F.slot_str_getitem.lookup,typeIs_str _ _ _,?_⟩
 refine byc fun zG_=>?_
 obtain⟨o,e,c,d⟩:=hs
 refine zG_ ?_
 have fin:∀t' k,EP X pins σ Q (.str (Txt.slice z lo hi) t') { s with toks:=k }:=fun t' k=>⟨.str _,H,I.tok _,⟨_,rfl⟩,q⟩
 have hl:=le_trans (Txt.slice_le z lo hi) hz
 cases pl with
 |none=>
  cases pu with
  |none=>exact wpAny_getItem_str_slice (l:=none) (u:=none) (st:=none) ⟨o,e,c,d⟩ rfl (post_val_or_str ⟨hl,fin⟩)
  |int j uj=>exact wpAny_getItem_str_slice (l:=none) (u:=some (j,uj)) (st:=none) ⟨o,e,c,d⟩ rfl (post_val_or_str ⟨hl,fin⟩)
 |int i ui=>
  cases pu with
  |none=>exact wpAny_getItem_str_slice (l:=some (i,ui)) (u:=none) (st:=none) ⟨o,e,c,d⟩ rfl (post_val_or_str ⟨hl,fin⟩)
  |int j uj=>exact wpAny_getItem_str_slice (l:=some (i,ui)) (u:=some (j,uj)) (st:=none) ⟨o,e,c,d⟩ rfl (post_val_or_str ⟨hl,fin⟩)
noncomputable def cutD(xs:List D)(lo hi:Option Int):List D:=(xs.drop (HT.sIx xs.length 0 lo)).take (HT.sIx xs.length xs.length hi-HT.sIx xs.length 0 lo)
noncomputable def slD(d:D)(lo hi:Option Int):Rs D:=match d with
 |.str x=>if x.length≤sizeLine then .ok (.str (Txt.slice x lo hi)) else .no
 |.lst ds=>.ok (.lst (cutD ds lo hi))
 |_=>.no
noncomputable abbrev FO:=DS→Rs (Option Int)
noncomputable def j7:FO:=fun _=>.ok none
noncomputable def ve(fe:FE):FO:=fun τ=>(fe τ).bind fun d=>match d with
 |.int i=>.ok (some i)
 |_=>.no
noncomputable def tOs(X:Cx)(f:FO):TO:=fun σ H Q=>∃F τ,RV X.K F τ σ H∧Ok X (f τ) fun o=>∀F' H',Ext F H F' H'→Q o H'
noncomputable def PDO(X:Cx)(e:Option Expr)(f:FO):Prop:=PO X e (tOs X f)
theorem PO.imp{e:Option Expr}{t t':TO}(h:PO X e t)(f:∀σ H Q,t' σ H Q→t σ H Q):PO X e t':=fun pins s σ H Q I q=>h pins s σ H Q I (f _ _ _ q)
theorem YN:PDO X none j7:=PO.imp TU fun σ H Q z_=>by obtain⟨F,τ,R,h⟩:=z_;exact h F H (Ext.refl R.fh)
theorem uU(h:PDE X e fe):PDO X (some e) (ve fe):=PO.imp (TR h) fun σ H Q z_=>by
 refine byc fun zG_=>?_
 obtain⟨F,τ,R,h⟩:=z_
 refine zG_ ?_
 refine tE.of R h.bind fun d v F1 H1 g x R1 r=>?_
 cases d with
 |int i=>simp only[Rep] at r;exact⟨i,r,g F1 H1 x⟩
 |_=>exact g.elim
noncomputable def eSl(fe:FE)(fl fh:FO):FE:=fun τ=>(fe τ).bind fun d=>(fl τ).bind fun l=>(fh τ).bind fun u=>slD d l u
theorem UD{lo hi:Option Expr}{fl fh:FO}{p2:Pos}(he:PDE X e fe)(hl:PDO X lo fl)(hu:PDO X hi fh):PDE X (.Subscript e (.Slice lo hi none p2) pos) (eSl fe fl fh):=
 PE.imp (Vx (sl_str.or Jl) he hl hu) fun σ H Q z_=>by
  refine byc fun zG_=>?_
  obtain⟨F,τ,R,h⟩:=z_
  refine zG_ ?_
  refine tE.of R h.bind fun d v F1 H1 g x R1 r=>?_
  refine⟨F1,τ,R1,g.bind.imp fun l gl F2 H2 x2=>⟨F2,τ,R1.ext x2,gl.bind.imp fun u gu F3 H3 x3=>?_⟩⟩
  have f3:=x3.fh
  have x13:=x.trans (x2.trans x3)
  cases d with
  |str z=>
   simp only[Rep] at r
   obtain⟨zz,gu⟩:=yE gu
   exact .inl ⟨z,r,zz,gu _ F3 H3 x13 (by simp only[Rep])⟩
  |lst ds=>
   simp only[Rep] at r;obtain⟨a,vs,rfl,e1,t⟩:=r
   have gu:Ev X.K F H Q (.lst (cutD ds l u)):=gu
   refine .inr ⟨a,vs,rfl,SqL.of (f3 _ _ (x3.ff _ _ (x2.ff _ _ e1))),fun p hp=>gu _ _ _ (x13.trans (Ext.new f3 hp)) ?_⟩
   simp only[Rep]
   refine⟨p,_,rfl,zo,?_⟩
   have t3:Reps X.K F3 (cutD ds l u) (U4 vs l u):=by
    unfold cutD U4
    rw[← t.length]
    exact((t.mono (x2.ff.trans x3.ff)).drop _).take _
   exact t3.mono (yt (zI f3 hp))
  |_=>exact gu.elim
theorem G3{x:Str}{v:V}{u:Value}{d:D}(hg:Gl X x)(hm:X.mg x=some u)(r:RelV v u)(rd:∀F,Rep X.K F d v)(hd:(x==("__debug__" : Str))=false:=by decide):PDE X (.Name x pos) (eC d):=VF (TX hg hm r hd) rd
theorem vH{x:Str}{y:Str}{t:Tok}(hg:Gl X x)(hm:X.mg x=some (.str y t))(hd:(x==("__debug__" : Str))=false:=by decide):PDE X (.Name x pos) (eC (.str y)):=G3 (v:=.str y) hg hm ⟨t,rfl⟩ (fun _=>by simp only[Rep]) hd
theorem vj{x:Str}{y:Int}{t:Tok}(hg:Gl X x)(hm:X.mg x=some (.int y t))(hd:(x==("__debug__" : Str))=false:=by decide):PDE X (.Name x pos) (eC (.int y)):=G3 (v:=.int y) hg hm ⟨t,rfl⟩ (fun _=>by simp only[Rep]) hd
end
section
variable{X:Cx}{pos:Pos}{e tg:Expr}{es:List Expr}{fe:FE}{fs:FA}
noncomputable def iAnyT(K:Frag)(tl:TE):TI:=fun σ H R=>tl σ H fun x H1=>(∃a,x=.ref a∧(∃xs,SqL K H1 a xs)∧R (Itl K a) H1)∨(∃a,x=.ref a∧(∃xs,SqT K H1 a xs)∧R (Itt K a) H1)∨∃z,x=.str z∧R (Its z) H1
theorem zd3{l:Expr}{tl:TE}(hl:PE X l tl):PI X tg l (iAnyT X.K tl):=by
 intro pins s σ H R I h
 refine thn (hl pins s σ H _ I h) fun v s1 z_=>?_
 refine byc fun zG_=>?_
 obtain⟨x,H1,I1,r1,q1⟩:=z_
 refine zG_ ?_
 rcases q1 with ⟨a,e,⟨xs,hq⟩,q⟩|⟨a,e,⟨xs,hq⟩,q⟩|⟨z,e,q⟩
 ·subst e
  cases r1
  refine byc fun zG_=>?_
  obtain⟨its,rv,p,hz⟩:=I1.list hq
  refine zG_ ?_
  refine wpAny_pyIter_list p.isList ?_
  refine⟨s1.heap.objs.size,[s1.heap.objs.size],_,_,H1,rfl,I1.kept (t':=s1.toks) fun b o e=>get?_push_of_some _ e,XT a _,⟨_,Heap.get?_push_size _ rfl,rfl,rfl⟩,fun b hb=>?_,q⟩
  have e:b=s1.heap.objs.size:=by simpa using hb
  subst e
  exact I1.fpOk (le_refl _) (I1.hok.fresh (le_refl _))
 ·subst e
  cases r1
  refine byc fun zG_=>?_
  obtain⟨its,rv,p,hz⟩:=I1.tuple hq
  refine zG_ ?_
  refine wpAny_pyIter_tuple (show s1.heap.IsTuple a its.toArray from p) ?_
  refine⟨s1.heap.objs.size,[s1.heap.objs.size],_,_,H1,rfl,I1.kept (t':=s1.toks) fun b o e=>get?_push_of_some _ e,Ui a _,⟨_,Heap.get?_push_size _ rfl,rfl,rfl⟩,fun b hb=>?_,q⟩
  have e:b=s1.heap.objs.size:=by simpa using hb
  subst e
  exact I1.fpOk (le_refl _) (I1.hok.fresh (le_refl _))
 ·subst e
  obtain⟨t,rfl⟩:=r1
  have fin:∀(ty:String),(ty = "str_ascii_iterator" ∨ ty = "str_iterator")→PIE X pins σ tg R (.ref s1.heap.objs.size) { s1 with heap:=s1.heap.push { cls:=.type ty,data:=.fields #[.str z t,.int 0 0] } }:=fun ty hty=>by
   refine⟨s1.heap.objs.size,[s1.heap.objs.size],_,_,H1,rfl,I1.kept (t':=s1.toks) fun b o e=>get?_push_of_some _ e,Gn hty,⟨_,Heap.get?_push_size _ rfl,rfl,rfl⟩,fun b hb=>?_,q⟩
   have e:b=s1.heap.objs.size:=by simpa using hb
   subst e
   exact I1.fpOk (le_refl _) (I1.hok.fresh (le_refl _))
  cases ha:z.cps.all (· < 128)
  ·exact wpAny_pyIter_wide ha (fin _ (.inr rfl))
  ·exact wpAny_pyIter_ascii ha (fin _ (.inl rfl))
noncomputable def JR:D→Rs (List D)
 |.lst ds=>.ok ds
 |.scr ns=>.ok (ns.map .int)
 |.tup ds=>.ok ds
 |.str x=>.ok (wR x)
 |_=>.no
noncomputable def ZM(fe:FE):FA:=fun τ=>(fe τ).bind JR
theorem j0(he:PDE X e fe):PDI X tg e (ZM fe):=
 PI.imp (zd3 he) fun σ H R z_=>by
  refine byc fun zG_=>?_
  obtain⟨F,τ,Rv,h⟩:=z_
  refine zG_ ?_
  refine tE.of Rv h.bind fun d v F1 H1 g x R1 r=>?_
  cases d with
  |lst ds=>
   simp only[Rep] at r;obtain⟨a,vs,rfl,q,t⟩:=r
   exact .inl ⟨a,rfl,⟨vs,SqL.of (R1.fh _ _ q)⟩,g _ F1 H1 x (JS (SqL.of q) t)⟩
  |scr ns=>
   simp only[Rep] at r;obtain⟨a,rfl,q⟩:=r
   exact .inl ⟨a,rfl,⟨_,R1.fh.seq q⟩,g _ F1 H1 x (JS q (Reps.ints ns))⟩
  |tup ds=>
   simp only[Rep] at r;obtain⟨a,vs,rfl,q,t⟩:=r
   exact .inr (.inl ⟨a,rfl,⟨vs,Same.seqT R1.fh q⟩,g _ F1 H1 x (zi0 q t)⟩)
  |str z=>simp only[Rep] at r;exact .inr (.inr ⟨z,r,g _ F1 H1 x zi1⟩)
  |_=>exact g.elim
end
noncomputable def DefOk(P:Program)(w:World)(K:Frag)(mg:Str→Option Value)(base:Heap)(x:Str)(k n:Nat)(ps:List Str)(g:List D→Rs D):Prop:=
 ∃f fd,FnOk P w K mg base CX0 k f fd ps (spD K n g)∧Binds K fd ps []∧keepIn K (.ref f)=true∧mg x=some (.ref f)
structure ye(K:Frag)(mg:Str→Option Value)(x:Str)(st:Stmt)(f:Addr)(fd:FuncData):Prop where
 fn:Fun K x x st f fd
 at_:mg x=some (.ref f)
section
variable{P:Program}{w:World}{K:Frag}{mg:Str→Option Value}{base:Heap}
theorem DefOk.mk{x:Str}{st:Stmt}{f:Addr}{fd:FuncData}{N ps:List Str}{k n:Nat}{fb:FS}{g:List D→Rs D}(D:ye K mg x st f fd)(S:zD N ps (zh st))(hn:ps.length=n)
  (hb:∀(kV doc pm:Value) (an:Option Addr) (cdv ct:Value) (us:List Value),us.length=ps.length→bindArgs (fnOf x x (zF st) (zw st) (zh st) .none kV doc pm an cdv ct) ⟨us,[]⟩=pure (ps.zip us))
  (hbody:∀(cdv:Value) (A:Around) (outer:List Env) (s:Shared) (H:Hp) (E:XK),Room k (A.deeper (envOfC x (zh st) s.heap.objs.size f cdv)) →
   vC (jo CX0 P w K mg base N x (zh st) f cdv A outer s H E).nox (zw st) fb)
  (hg:∀ds d,ds.length=n→g ds=.ok d→wu N.length fb ds=.ok d):DefOk P w K mg base x (k+1) n ps g:=
 ⟨f,fd,FnD.to (fnD D.fn S hn hbody) hg,D.fn.binds hb,D.fn.kp,D.at_⟩
end
section
variable{X:Cx}{pos:Pos}{e tg:Expr}{es:List Expr}{fe:FE}{fs:FA}
theorem zL{k n:Nat}{ps:List Str}{g:List D→Rs D}{x:Str}{p:Pos}(D:DefOk X.prog X.w X.K X.mg X.base x k n ps g)(hr:Room k X.A)(ha:PDA X (e::es) fs)(hfs:∀τ ds,fs τ=.ok ds→ds.length=(e::es).length)(hn:(e::es).length=n:=by rfl)(hg:Gl X x:=by rfl)(hdb:(x==("__debug__" : Str))=false:=by decide)
  (he:starEach (e::es) X.env=(false,eval e X.env)::starEach es X.env:=by rfl) (hpl:(backTo pos (starEach es X.env)).any (·.1)=false:=by rfl):PDE X (.Call (.Name x p) (e::es) [] pos) (zv g fs):=by
 refine byc fun zG_=>?_
 obtain⟨f,fd,F,hb,hk,hm⟩:=D
 refine zG_ ?_
 exact G4 F hr hg hm hk hb ha hn hfs hdb he hpl
end
theorem wX{k:Nat}{A:Around}(r:Room k A):A.units+128<cLine:=by have:=r.un;lia
section
variable{X:Cx}{pos:Pos}{e a b:Expr}{fe fa fb:FE}
end
noncomputable def Ji(K:Frag):Sp:=fun vs H Q _=>∃(a:Addr) (ns:List Int) (F:Hp),vs=[.ref a]∧Same F H∧TbT F H∧SqL K F a (ns.map V.int)∧ns.length≤63∧∀H',Q (.bl true) H'
theorem zh2{P:Program}{w:World}{K:Frag}{mg:Str→Option Value}{base:Heap}{k:Nat}{g:List D→Rs D}{p:Str}{f:Addr}{fd:FuncData}(F:FnOk P w K mg base CX0 k f fd [p] (spD K 1 g))(h:∀ns:List Int,ns.length≤63→g [.scr ns]=.ok (.bl true)) :
  FnOk P w K mg base CX0 k f fd [p] (Ji K):=by
 refine F.imp fun vs H Q E z_=>?_
 refine byc fun zG_=>?_
 obtain⟨a,ns,Fz,e,fh,tt,hS,h63,q⟩:=z_
 refine zG_ ?_
 subst e
 refine⟨rfl,[.scr ns],Fz,fh,tt,Reps.cons (by simp only[Rep];exact⟨a,rfl,hS⟩) Reps.nil,?_⟩
 rw[h ns h63]
 intro v F' H' _ r
 simp only[Rep] at r
 subst r
 exact q H'
section
variable{X:Cx}{pos:Pos}{e tg:Expr}{es:List Expr}{fe:FE}{fs:FA}
theorem GE{K:Frag}{F:Hp}(lo:Int)(n:Nat):Reps K F (uK lo n) ((List.range n).map fun (k:Nat)=>V.int (lo+k)):=by
 unfold uK
 generalize List.range n=l
 induction l with
 |nil=>exact Reps.nil
 |cons a r ih=>exact Reps.cons (by simp only[Rep]) ih
theorem Gh{lo:Int}{acc:Array Value}{n:Nat}(h:ItemsOf (fun i v=>∃t,v=Value.int (lo+i*1) t) acc n):Vals ((List.range n).map fun (k:Nat)=>V.int (lo+k)) acc.toList:=by
 obtain⟨hn,hi⟩:=h
 have key:∀(l:List Value) (j:Nat),(∀k v,l[k]?=some v→∃t,v=Value.int (lo+((j+k:Nat):Int)) t)→Vals ((List.range' j l.length).map fun (k:Nat)=>V.int (lo+k)) l:=fun l=>by
  induction l with
  |nil=>intro j _;exact .nil
  |cons a r ih=>
   intro j hj
   rw[length_cons,range'_succ,map_cons]
   refine .cons ?_ (ih (j+1) fun k v hv=>?_)
   ·obtain⟨t,rfl⟩:=hj 0 a rfl
    exact⟨t,by simp⟩
   ·obtain⟨t,e⟩:=hj (k+1) v (by simpa using hv)
    exact⟨t,by rw[e];congr 2;lia⟩
 have:=key acc.toList 0 fun k v hv=>by
  obtain⟨t,e⟩:=hi k v (by simpa using hv)
  exact⟨t,by rw[e];simp⟩
 rw[length_toList,hn,← range_eq_range'] at this
 exact this
noncomputable def VO(fi:FA):FA:=fun τ=>(fi τ).bind fun ds=>if ds.length≤16777216 then .ok ds else .no
theorem Mw{pins:List (Addr×Obj)}{σ:St}{F H F1 H1:Hp}{s1:Shared}{Q:VK}{lo hi:Int}{t u v:Tok}{tk:Nat}(hc:X.calm=true)(I1:Inv X pins σ H1 s1)(h1 : -(2 ^ 62)≤lo)(h2:lo<2 ^ 62)(h3 : -(2 ^ 62)≤hi)(h4:hi<2 ^ 62)(hz:(uK lo (hi-lo).toNat).length≤16777216)
  (x:Ext F H F1 H1) (q:∀p vs F' H',Ext F H F' H'→H' p=none→Reps X.K F' (uK lo (hi-lo).toNat) vs→Q (.ref p) (upd H' p (.lst vs))) :
  wpAny (model X.prog X.w) X.A (call (.type "list") [.ref s1.heap.objs.size]) (EP X pins σ Q) X.xe { s1 with heap:=s1.heap.push { cls:=.type "range", data:=.fields #[.int lo t,.int hi u,.int 1 v] },toks:=tk }:=by
 have I2:Inv X pins σ H1 { s1 with heap:=s1.heap.push { cls:=.type "range", data:=.fields #[.int lo t,.int hi u,.int 1 v] },toks:=tk }:=I1.kept fun b o e=>get?_push_of_some _ e
 have hl:(uK lo (hi-lo).toNat).length=(hi-lo).toNat:=by simp[uK]
 rw[hl] at hz
 refine call_list_range (n:=(hi-lo).toNat) (I2.ok.hd hc) (IsRange.new ..) (small_one h1 h2 h3 h4) (by rw[rangeSize_one];split <;> lia) (by lia) fun h' tk' acc' c' hk hS' hacc=>?_
 have rel:=Gh hacc
 refine⟨.ref _,_,I2.laid (t':=tk') hk (le_refl _) (o:=.lst ((List.range (hi-lo).toNat).map fun (k:Nat)=>V.int (lo+k))) ⟨by rw[length_map,length_range,sizeLine_eq];exact hz,acc'.toList,c',rel,by simpa using hS'⟩,rfl,q _ _ _ _ x (I2.hok.fresh (le_refl _)) (GE _ _)⟩
theorem Yd{a:Expr}{p p2 pos2:Pos}(hc:X.calm=true)(hl:Gl X "list")(hml:X.mg "list" = none)(hg:Gl X "range")(hm:X.mg "range" = none)(ha:PDA X [a] fs)(hs:starEach [a] X.env=[(false,eval a X.env)]:=by rfl)
  (he:starEach [.Call (.Name "range" p2) [a] [] pos2] X.env=(false,eval (.Call (.Name "range" p2) [a] [] pos2) X.env)::starEach [] X.env:=by rfl) (hpl:(backTo pos (starEach [] X.env)).any (·.1)=false:=by rfl) :
  PDF X (.Call (.Name "list" p) [.Call (.Name "range" p2) [a] [] pos2] [] pos) (VO (vB fs)):=by
 rintro pins s σ H Q I ⟨F,τ,R,h⟩
 refine wpAny_Call_Name_kw (uv I hl hml boot_list ?_)
 refine PyProof.Rows.callWith_type1 ?_ he hpl
 rw[he]
 show wpAny _ _ (spliced ((false,eval (.Call (.Name "range" p2) [a] [] pos2) X.env)::backTo pos (starEach [] X.env))) _ _ s
 refine Calls.spliced_cons ?_
 have h:=h.bind
 unfold vB at h
 have h:=h.bind
 generalize hG:(fun ds=>Ok X (match UW ds with|some j=>if -(2 ^ 62)≤j∧j<2 ^ 62 then Rs.ok (uK 0 j.toNat) else Rs.no|none=>Rs.no) fun a=>Ok X (if a.length≤16777216 then Rs.ok a else Rs.no) fun ds=>∀(p:Addr) (vs:List V) (F' H':Hp),Ext F H F' H'→H' p=none→Reps X.K F' ds vs→Q (V.ref p) (upd H' p (HO.lst vs)))=G at h
 refine Call_ (uv I hg hm boot_range (PyProof.Rows.callWith_type1 (thn (ha pos2 pins s σ H (fun vs H1=>∃ds F1,G ds∧Ext F H F1 H1∧RV X.K F1 τ σ H1∧Reps X.K F1 ds vs) I (tAs.of R h fun ds vs F1 H1 g x R1 r=>⟨ds,F1,g,x,R1,r⟩)) fun us s1 z_=>?_) hs rfl))
 refine byc fun zG_=>?_
 obtain⟨vs,H1,I1,r1,ds,F1,g,x,R1,r⟩:=z_
 refine zG_ ?_
 subst hG
 cases q1:UW ds with
 |none=>simp only[q1] at g;exact g.elim
 |some j=>
  simp only[q1] at g
  have e:=JU q1
  subst e
  obtain⟨v,rfl,q⟩:=r.one
  simp only[Rep] at q;subst q
  obtain⟨z,g⟩:=yE g
  obtain⟨zl,g⟩:=yE g
  cases r1 with
  |cons ra rr=>
   cases rr
   obtain⟨t,rfl⟩:=ra
   refine call_range_1 ?_
   refine Calls.spliced_nil ?_
   exact Mw hc I1 (by decide) (by decide) z.1 z.2 (by rw[Int.sub_zero];exact zl) x (by rw[Int.sub_zero];exact g)
end
section
open PySem.SeqAt
open PySem.AutoSeq1 (wpAny_loadPart')
open PySem.MeetsSeq PySem.MeetsSeq2 PySem.MeetsSeq3
end
section
variable{X:Cx}
end
section
variable{X:Cx}
end
section
variable{rest:List Expr}{env:Env}
end
section
variable{X:Cx}{pos:Pos}{e a b:Expr}{es:List Expr}{fe fa fb:FE}{fs:FA}
noncomputable def xx(n:Nat):List D→List D
 |[]=>[]
 |d::r=>.tup [.int n,d]::xx (n+1) r
theorem Zi:∀(ds:List D) (n:Nat),(xx n ds).length=ds.length:=by
 intro l_
 induction l_ with
 |nil=>
  rintro _
  exact rfl
 |cons _ r ih_=>
  rintro n
  simp[xx,ih_]
theorem Zj:∀{ds:List D} {n i:Nat} {p:D},(xx n ds)[i]?=some p→∃d,ds[i]?=some d∧p=.tup [.int ((n+i:Nat):Int),d]
 |[],_,_,_,h=>by simp[xx] at h
 |d::ds,n,0,p,h=>by simp[xx] at h;exact⟨d,rfl,by simpa using h.symm⟩
 |d::ds,n,i+1,p,h=>by
  obtain⟨d',h2,h3⟩:=Zj (n:=n+1) (i:=i) (by simpa[xx] using h)
  exact⟨d',by simpa using h2,by rw[h3];congr 3;show((n+1+i:Nat):Int)=_;congr 1;lia⟩
end
section
variable{X:Cx}{pins:List (Addr×Obj)}{σ:St}{H:Hp}{s:Shared}{h':Heap}
end
section
variable{X:Cx}{pins:List (Addr×Obj)}{σ:St}{H:Hp}{s:Shared}{h':Heap}{a:Addr}{cls:Value}
variable{M:Model}{A:Around}{E:Value→Shared→Prop}{Q:Unit→Shared→Prop}
theorem np(b:Addr):∀p∈([]:List (Addr×Obj)),p.1≠b:=fun p hp=>nomatch hp
end
section
variable{P:Program}{w:World}{K:Frag}{mg:Str→Option Value}{base:Heap}
end
section
variable{X:Cx}{pos:Pos}{e:Expr}{es:List Expr}{fe:FE}{fs:FA}{st:Stmt}
end
section
variable{P:Program}{w:World}{K:Frag}{mg:Str→Option Value}{base:Heap}
end
section
variable{X:Cx}{pins:List (Addr×Obj)}{σ:St}{H:Hp}{s:Shared}{a:Addr}{cls:Value}
end
section
variable{prog:Program}{w:World}{A:Around}{E:Value→Shared→Prop}{K:Frag}{x C:Addr}
end
section
variable{X:Cx}{pos:Pos}{a b:Expr}{fa:FE}
end
section
variable{X:Cx}{pos:Pos}{e:Expr}{es:List Expr}{fs:FA}{st:Stmt}
end
section
variable{X:Cx}{pos:Pos}{e a b:Expr}{es:List Expr}{fe fa fb:FE}{fs:FA}
end
section
variable{X:Cx}{pos:Pos}{e a b:Expr}{es:List Expr}{fe fa fb:FE}{fs:FA}
end
section
variable{P:Program}{w:World}{K:Frag}{mg:Str→Option Value}{base:Heap}
end
section
variable{X:Cx}{pos:Pos}{e:Expr}{es:List Expr}{fe:FE}{fs:FA}
end
section
variable{X:Cx}{scope:Scope}{N':List Str}
end
section
variable{X:Cx}{scope:Scope}{N':List Str}{tg iter elt:Expr}{ifs:List Expr}{pos:Pos}{wi:TI}{g:TG}{ti:TT}{te:TE}{s0:St→St}
end
section
variable{X:Cx}{scope:Scope}{tn fr:List Str}{idx:List Nat}{tg iter elt:Expr}{ifs:List Expr}{pos:Pos}{fi:FA}{set:FG}{ft:FT}{fe:FE}
end
section
variable{X:Cx}{tg:Expr}
end
section
variable{X:Cx}{pos:Pos}{e tg:Expr}{es:List Expr}{fe:FE}{fs:FA}
end
section
variable{P:Program}{w:World}{K:Frag}{mg:Str→Option Value}{base:Heap}
end
section
variable{X:Cx}{pos:Pos}{e:Expr}{es:List Expr}{fe:FE}{fs:FA}
end
section
variable{X:Cx}{pins:List (Addr×Obj)}{σ:St}{H:Hp}{s:Shared}{a:Addr}{cls:Value}
end
noncomputable def Ins(x:Str):It:=
 ⟨fun k _=>k<x.cps.size,
  fun k H y H'=>∃p c,H p=none∧x.cps[k]?=some c∧y=.ref p∧H'=upd H p (.tup [.int k,.str ⟨#[c]⟩]),
  fun k _=>x.cps.size≤k⟩
theorem Uo(x:Str):strIterType x = "str_ascii_iterator" ∨ strIterType x = "str_iterator" := by
 unfold strIterType;split <;> simp
theorem Wm{prog:Program}{w:World}{A:Around}(hh:A.handled=none)(it:Addr)(x:Str)(t:Tok):Draws prog w A it [it] x.cps.size (SignAt x) (fun i h=>h.IsStrIter it (strIterType x) x t i):=by
 rcases Uo x with e|e <;> rw[e]
 ·exact Draws.strAscii hh it x t
 ·exact Draws.strWide hh it x t
theorem Uk{P:Program}{w:World}{K:Frag}{elts:List Expr}{x1}{pos:Pos}{e it:Addr}{x:Str}{t:Tok}(D:e≠it) :
  Vf P w K (.Tuple elts x1 pos) (Ins x) [e,it] e (fun k h=>(∃old,IsEnum h e it (k:Nat) old)∧h.IsStrIter it (strIterType x) x t k∧k≤x.cps.size) where
 mem:=by simp
 obj:=fun k h ⟨⟨old,h1⟩,⟨o5,e5,c5,d5⟩,_⟩ b hb=>by
  simp at hb
  rcases hb with rfl|rfl
  ·exact⟨_,h1,fun v z=>by cases z⟩
  ·exact⟨_,e5,fun v z=>by rw[d5] at z;cases z⟩
 keep:=fun k h h' ⟨⟨old,h1⟩,⟨o,q,r⟩,l⟩ hk=>⟨⟨old,hk e (by simp) _ h1⟩,⟨o,hk it (by simp) o q,r⟩,l⟩
 item:=by
  rintro X hP hw hK hc k pins s σ H E I hf ⟨⟨old,h1⟩,h5,_⟩ hg
  subst hP hw hK
  have hg:k<x.cps.size:=hg
  refine wpAny_pyNext_enum_itemD (Wm (show X.A.in1.handled=none from I.ok.hd hc) it x t) h1 h5 hg D (by simpa using D) fun v h' tk pv q1 q2 q3 q4 q5=>?_
  refine byc fun zG_=>?_
  obtain⟨c,u,hc',rfl⟩:=pv
  refine zG_ ?_
  have np:s.heap.objs.size≠e:=ne_of_gt (Heap.lt_size h1)
  refine⟨_,rfl,wpAny_letOwnedTupleGo_enum (s:={ s with heap:=h',toks:=tk+1 }) q1 fun h'' z1 sb=>?_⟩
  refine⟨.ref s.heap.objs.size,upd H s.heap.objs.size (.tup [.int k,.str ⟨#[c]⟩]),?_,rfl,⟨_,c,I.hok.fresh (le_refl _),hc',rfl,rfl⟩,⟨⟨_,by simpa using z1⟩,?_,hg⟩,fun b hb=>?_⟩
  ·refine(Tn (s:=s) (h':=h'') (t':=tk+1) (xs:=[.int k,.str ⟨#[c]⟩]) (ch:=[e,it]) I (fun b o hb q=>?_) hf (le_refl _) ⟨_,sb.extBut _ _ np q3,rfl,_,rfl⟩ (.cons ⟨_,rfl⟩ (.cons ⟨_,rfl⟩ .nil)) (by show 2≤sizeLine;decide):Inv X pins σ _ { s with heap:=h'',toks:=tk+1 })
   simp at hb
   exact sb.extBut _ _ hb.1 (q5 b o hb.1 hb.2 q)
  ·obtain⟨o,q,r⟩:=q2
   exact⟨o,sb.extBut _ _ (Ne.symm D) q,r⟩
  ·have lt:b<s.heap.objs.size:=by
    simp at hb
    rcases hb with rfl|rfl
    ·exact Heap.lt_size h1
    ·obtain⟨o,q,r⟩:=h5
     exact Heap.lt_size q
   rw[zm (ne_of_lt lt)]
   exact(hf b hb).1
 done:=by
  rintro X hP hw hK hc k pins s σ H E I hf ⟨⟨old,h1⟩,h5,hk⟩ hg
  subst hP hw hK
  have hg:x.cps.size≤k:=hg
  have e1:k=x.cps.size:=Nat.le_antisymm hk hg
  subst e1
  refine byc fun zG_=>?_
  obtain⟨f0,f1,f2,f3,f4,f5⟩:=hf it (by simp)
  refine zG_ ?_
  exact wpAny_pyNext_enum_endD (Wm (show X.A.in1.handled=none from I.ok.hd hc) it x t) h1 h5 fun h' eb=>⟨rfl,I.turned (t':=s.toks) (fun b o hb q=>eb b o hb q) f0 f1 f3 f4 f5⟩
 self:=fun _ _ _ _ _ ⟨⟨_,h1⟩,_⟩ h=>wpAny_pyIter_enum h1 h
section
variable{X:Cx}{pos:Pos}{e a b:Expr}{es:List Expr}{fe fa fb:FE}{fs:FA}
noncomputable def zi6(ta:TA):TI:=fun σ H R=>ta σ H fun vs H1=>∃x,vs=[.str x]∧R (Ins x) H1
theorem GP{ta:TA}{p:Pos}{elts:List Expr}{x1}{tpos:Pos}(hg:Gl X "enumerate")(hm:X.mg "enumerate" = none)(ha:PA X [a] ta)(hs:starEach [a] X.env=[(false,eval a X.env)]:=by rfl) :
  PI X (.Tuple elts x1 tpos) (.Call (.Name "enumerate" p) [a] [] pos) (zi6 ta):=by
 intro pins s σ H R I h
 refine Call_ (uv I hg hm boot_enumerate (PyProof.Rows.callWith_type1 (thn (ha pos pins s σ H _ I h) fun us s1 z_=>?_) (by rw[hs];rfl) rfl))
 refine byc fun zG_=>?_
 obtain⟨vs,H1,I1,r1,q1⟩:=z_
 obtain⟨x,e,q⟩:=q1
 subst e
 obtain⟨u1,rfl,ru⟩:=vals1 r1
 obtain⟨t,rfl⟩:=ru
 refine zG_ ?_
 refine call_enumerate_str fun h' g1 g2 g3 g4=>?_
 have I5:Inv X pins σ H1 { s1 with heap:=h' }:=I1.kept (t':=s1.toks) g4
 refine wpAny_pyIter_enum (s:={ s1 with heap:=h' }) g1 ?_
 refine⟨s1.heap.objs.size+1,[s1.heap.objs.size+1,s1.heap.objs.size],_,_,H1,rfl,I5,Uk (x:=x) (t:=t) (by show(_:Nat)≠_;lia),⟨⟨_,g1⟩,g2,zero_le _⟩,fun b hb=>?_,q⟩
 have hb':s1.heap.objs.size≤b:=by
  simp at hb
  rcases hb with rfl|rfl <;> (show s1.heap.objs.size≤(_:Nat);lia)
 refine byc fun zG_=>?_
 obtain⟨f0,f1,f2,f3,f4,f5⟩:=I1.fpOk (H':=H1) hb' (I1.hok.fresh hb')
 refine zG_ ?_
 exact⟨f0,f1,f2,f3,f4,f5⟩
theorem MN{K:Frag}{F1:Hp}{x:Str}:Ja K (Ins x) F1 (xx 0 (wR x)):=fun i F H f1 f2=>by
 have hl:=Zi (wR x) 0
 have hz:(wR x).length=x.cps.size:=by simp[wR]
 refine⟨fun h=>?_,fun p hp=>?_⟩
 ·show x.cps.size≤i
  lia
 obtain⟨d,h2,rfl⟩:=Zj hp
 have l2:i<x.cps.size:=by have:=(List.getElem?_eq_some_iff.mp h2).1;lia
 refine⟨l2,fun y H' yy=>?_⟩
 refine byc fun zG_=>?_
 obtain⟨pa,c,hp,q',rfl,rfl⟩:=yy
 refine zG_ ?_
 refine⟨upd F pa (.tup [.int i,.str ⟨#[c]⟩]),Ext.new f2 hp,?_⟩
 have ed:d=.str ⟨#[c]⟩:=by
  unfold wR at h2
  rw[getElem?_map] at h2
  have:x.cps.toList[i]?=some c:=by simpa using q'
  rw[this] at h2
  exact(Option.some.inj h2).symm
 subst ed
 simp only[Rep]
 refine⟨pa,_,rfl,SqT.of zo,Reps.cons (by simp only[Rep,zero_add]) (Reps.cons (by simp only[Rep]) Reps.nil)⟩
noncomputable def sq1:List D→Option Str
 |[.str x]=>some x
 |_=>none
theorem zc5{ds:List D}{x:Str}(h:sq1 ds=some x):ds=[.str x]:=by
 unfold sq1 at h;split at h <;> cases h;rfl
noncomputable def MQ(fs:FA):FA:=fun τ=>(fs τ).bind fun ds=>match sq1 ds with
 |some x=>.ok (xx 0 (wR x))
 |none=>.no
theorem Qx{p:Pos}{elts:List Expr}{x1}{tpos:Pos}(hg:Gl X "enumerate")(hm:X.mg "enumerate" = none)(ha:PDA X [a] fs)(hs:starEach [a] X.env=[(false,eval a X.env)]:=by rfl) :
  PDI X (.Tuple elts x1 tpos) (.Call (.Name "enumerate" p) [a] [] pos) (MQ fs):=
 PI.imp (GP hg hm ha hs) fun σ H R z_=>by
  refine byc fun zG_=>?_
  obtain⟨F,τ,Rv,h⟩:=z_
  refine zG_ ?_
  refine tAs.of Rv h.bind fun ds vs F1 H1 g x R1 r=>?_
  cases q1:sq1 ds with
  |none=>rw[q1] at g;exact g.elim
  |some z=>
   rw[q1] at g
   have e:=zc5 q1
   subst e
   obtain⟨v,rfl,r1⟩:=r.one
   simp only[Rep] at r1
   subst r1
   exact⟨z,rfl,g _ F1 H1 x MN⟩
end
section
variable{X:Cx}{tg:Expr}
end
section
variable{X:Cx}{pos:Pos}{e tg:Expr}{es:List Expr}{fe:FE}{fs:FA}
end
section
variable{X:Cx}{pos:Pos}{e a b:Expr}{es:List Expr}{fe fa fb:FE}{fs:FA}
end
noncomputable def BM(mg:Str→Option Value)(base:Heap):Prop:=∃bm o,mg "__builtins__" = some (.ref bm)∧bm≠builtinsNs∧base.get? bm=some o∧o.cls=.type "module" ∧ o.dict=some builtinsNs∧o.data=.plain
noncomputable def zb7(ts:List Addr)(H:Hp):Prop:=∀b,H b=none∨(∃o xs,H b=some (.frz o (.lst xs)))∨(b∈ts∧H b=some (.tbl #[]))
theorem Q0{P:Program}{w:World}{K:Frag}{mg mb:Str→Option Value}{CX:CXT}{k:Nat}{fa a:Addr}{fd:FuncData}{x:Str}{sp:Sp}{s₁:Shared}{vs:List Value}{ns:List Int}{ts:List Addr}
  (KX:K.In s₁.heap) (hns:s₁.heap.Ns mainGlobals mg) (hb:s₁.heap.Ns builtinsNs mb) (hbb:∀x:Str,x ≠ "__name__" → mb x=bootBuiltins x) (hlim:s₁.heap.NoLimit) (hg:s₁.gens = #[])
  (ha:s₁.heap.get? a=some { cls:=.type "list", data:=.seq vs.toArray }) (hi:IntsAre vs ns) (hl:ns.length≤sizeLine) (hr:Room k callerA)
  (tb:∀p∈ts,K.lookup p=none∧s₁.heap.get? p=some (PySem.W.tabObj #[])∧isCodeTable s₁.heap p)
  (hbm:BM mg s₁.heap) (F:∀base:Heap,K.In base→base.Ns mainGlobals mg→BM mg base→FnOk P w K mg base CX k fa fd [x] sp) (hbind:∀(s:Shared) (u:Value),BindsTo s fd ⟨[u],[]⟩ [(x,u)])
  (hsp:∀H F:Hp,zb7 ts H→Same F H→(∀p∈ts,F p=none∧H p=some (.tbl #[]))→SqL K F a (ns.map V.int)→sp [.ref a] H (fun v H'=>v=.bl true) fun _ _ _=>False)
  (hCX:∀H e s',CX [] H s₁ (fun _ _ _=>False) e s'→False) :
  codeAny (model P w) callerA (.call (.ref fa) ⟨[.ref a],[]⟩) (fun r s'=>r=.ok (.ret (.bool true))∧OldK s₁.heap s'.heap∧s'.os=s₁.os∧AllBare s'.gens) s₁:=by
 have rv:=vals_ints hi
 have lenV:=hi.length
 have nat:a∉ts:=fun z=>by
  obtain⟨_,e,_⟩:=tb a z
  rw[ha] at e;cases e
 have core:∀H F:Hp,zb7 ts H→Same F H→(∀p∈ts,F p=none∧H p=some (.tbl #[]))→SqL K F a (ns.map V.int)→HOk P w H s₁.heap→(∀b,H b≠none→b=a∨b∈ts)→(H a≠none→K.lookup a=none) →
   codeAny (model P w) callerA (.call (.ref fa) ⟨[.ref a],[]⟩) (fun r s'=>r=.ok (.ret (.bool true))∧OldK s₁.heap s'.heap∧s'.os=s₁.os∧AllBare s'.gens) s₁:=by
  intro H Fz hO fh hT hS hok hA hK
  have base_of:∀{b:Addr} {o:Obj},s₁.heap.get? b=some o→H b=none→(XN s₁.heap H).get? b=some o:=fun e n=>MS e n
  have noA:∀{b:Addr} {o:Obj} {es:Array DictEntry} {ep:Nat},s₁.heap.get? b=some o→o.data=.dict es ep→H b=none:=fun {b o es ep} e d=>by
   cases q:H b with
   |none=>rfl
   |some u=>
    rcases hA b (by rw[q];simp) with e' | e'
    ·subst e'
     rw[ha] at e;cases e
     have d':Data.seq vs.toArray _=Data.dict es ep:=d
     cases d'
    ·obtain⟨_,e2,_⟩:=tb b e'
     rw[e] at e2;cases e2
     cases d
  have nsK:∀{b:Addr} {m:Str→Option Value},s₁.heap.Ns b m→(XN s₁.heap H).Ns b m:=fun {b m} ⟨o,es,ep,e,d,r⟩=>⟨o,es,ep,base_of e (noA e d),d,r⟩
  have hKb:K.In (XN s₁.heap H):=fun b o e=>base_of (KX b o e) (by
   cases q:H b with
   |none=>rfl
   |some u=>
    rcases hA b (by rw[q];simp) with e' | e'
    ·subst e'
     rw[hK (by rw[q];simp)] at e;cases e
    ·rw[(tb b e').1] at e;cases e)
  have hM:Mod K mg (XN s₁.heap H):=⟨hKb,nsK hns,⟨mb,nsK hb,hbb⟩,let ⟨mc,h1,h2⟩:=hlim;⟨mc,nsK h1,h2⟩⟩
  have e0:Env0 P w K mg (XN s₁.heap H) callerA [] s₁ H:=⟨rfl,hM,fun b o e=>Lj e,Nat.le_of_eq (Q6 _ _),trivial,fun b hb=>absurd (show b∈([]:List Addr) from hb) (by simp),hok,.of_eq hg⟩
  have hbb:BM mg (XN s₁.heap H):=by
   refine byc fun zG_=>?_
   obtain⟨bm,o,b1,b2,b3,b4,b5,b6⟩:=hbm
   refine zG_ ?_
   refine⟨bm,o,b1,b2,base_of b3 ?_,b4,b5,b6⟩
   cases q:H bm with
   |none=>rfl
   |some u=>
    rcases hA bm (by rw[q];simp) with e' | e'
    ·subst e'
     rw[ha] at b3;cases b3;cases b6
    ·obtain⟨_,e2,_⟩:=tb bm e'
     rw[b3] at e2;cases e2;cases b6
  refine codeAny_mono ((F _ hKb (nsK hns) hbb).run callerA [] s₁ H ⟨[.ref a],[]⟩ [.ref a] [.ref a] _ _ hr e0 (hbind s₁ (.ref a)) (.cons rfl .nil) (hsp H Fz hO fh hT hS)) fun r s' h=>?_
  cases r with
  |error e=>exact(hCX H e s' h).elim
  |ok fl=>
   cases fl with
   |next=>exact False.elim h
   |brk=>exact False.elim h
   |cont=>exact False.elim h
   |ret u=>
    refine byc fun zG_=>?_
    obtain⟨v,H',os,bare,un,hok',r',q'⟩:=h
    refine zG_ ?_
    subst q'
    obtain rfl:u=Value.bool true:=r'
    have was:∀b o,s₁.heap.get? b=some o→asItWas s₁.heap s'.heap b o:=fun b o e=>by
     cases q:H b with
     |none=>exact .inl (un.keep b o e q (by intro z;exact absurd (show b∈([]:List Addr) from z) (by simp)) (by simp))
     |some u=>
      rcases hO b with z|⟨ob,xs,z⟩|⟨hb,z⟩
      ·rw[q] at z;cases z
      ·have z2:=un.frzs b ob _ z
       obtain⟨e1,_⟩:=hok b _ z
       obtain⟨e2,_⟩:=hok' b _ z2
       rw[e] at e1;cases e1
       exact .inl e2
      ·refine byc fun zG_=>?_
       obtain⟨more,z2⟩:=un.tbls b _ z
       have e2:s'.heap.get? b=some { cls:=.none,data:=.fields (#[]++more) }:=hok' b _ z2
       obtain⟨_,e3,e4⟩:=tb b hb
       refine zG_ ?_
       rw[e] at e3;cases e3
       exact .inr (.inl ⟨e4,rfl,#[],more,rfl,e2⟩)
    refine⟨rfl,⟨was,fun b o e=>?_⟩,os,bare⟩
    obtain⟨o',e'⟩:=un.there b o e (by simp)
    exact⟨o',e'⟩
 cases hk:K.lookup a with
 |some o=>
  have e:=KX a o hk
  rw[ha] at e
  cases e
  refine core (fun b=>if b∈ts then some (.tbl #[]) else none) (fun _=>none) (fun b=>?_) (fun _ _ z=>nomatch z) (fun p hp=>⟨rfl,if_pos hp⟩) (.inr ⟨_,vs.toArray,_,hk,rfl,rfl,rfl,by rw[size_toArray,lenV];exact hl,by simpa using rv⟩) (fun b u z=>?_) (fun b z=>?_) fun z=>absurd (if_neg nat) z
  ·by_cases h:b∈ts
   ·exact .inr (.inr ⟨h,if_pos h⟩)
   ·exact .inl (if_neg h)
  ·by_cases h:b∈ts
   ·have z':=(if_pos h).symm.trans z
    cases z'
    exact(tb b h).2.1
   ·have z':=(if_neg h).symm.trans z
    cases z'
  ·by_cases h:b∈ts
   ·exact .inr h
   ·exact absurd (if_neg h) z
 |none=>
  refine core (fun b=>if b∈ts then some (.tbl #[]) else if b=a then some (.frz { cls:=.type "list", data:=.seq vs.toArray } (.lst (ns.map V.int))) else none) (fun b=>if b=a then some (.frz { cls:=.type "list", data:=.seq vs.toArray } (.lst (ns.map V.int))) else none) (fun b=>?_) (fun b o z=>?_) (fun p hp=>⟨if_neg (fun z:p=a=>nat (z ▸ hp)),if_pos hp⟩) (.inl (.inr ⟨{ cls:=.type "list", data:=.seq vs.toArray },if_pos rfl⟩)) (fun b u z=>?_) (fun b z=>?_) fun _=>hk
  ·by_cases h:b∈ts
   ·exact .inr (.inr ⟨h,if_pos h⟩)
   ·by_cases hb:b=a
    ·exact .inr (.inl ⟨_,_,(if_neg h).trans (if_pos hb)⟩)
    ·exact .inl ((if_neg h).trans (if_neg hb))
  ·by_cases hb:b=a
   ·have z':=(if_pos hb).symm.trans z
    cases z'
    subst hb
    exact(if_neg nat).trans (if_pos rfl)
   ·have z':=(if_neg hb).symm.trans z
    cases z'
  ·by_cases h:b∈ts
   ·have z':=(if_pos h).symm.trans z
    cases z'
    exact(tb b h).2.1
   ·have z1:=(if_neg h).symm.trans z
    by_cases hb:b=a
    ·have z':=(if_pos hb).symm.trans z1
     cases z'
     subst hb
     exact⟨ha,by rw[length_map];exact hl,vs,_,rv,ha⟩
    ·have z':=(if_neg hb).symm.trans z1
     cases z'
  ·by_cases h:b∈ts
   ·exact .inr h
   ·by_cases hb:b=a
    ·exact .inl hb
    ·exact absurd ((if_neg h).trans (if_neg hb)) z
theorem VQ{K:Frag}{p:Addr}(h:p∉K.map (·.1)):K.lookup p=none:=by
 rw[show K.lookup p=List.lookup p K from rfl,List.lookup_eq_none_iff]
 intro q hq
 simp only[bne_iff_ne,ne_eq,beq_eq_false_iff_ne]
 intro z
 exact h (mem_map.mpr ⟨q,hq,z.symm⟩)
noncomputable def Tf(K:Frag):Prop:=∀r∈Tabs.rows,∃c,PySem.W.codeHdIn K c r.1=true
theorem walkM{l:PySem.W.OpenLaw}{q:Program}{loose:List Str}{XP:(Str→Option Value)→Heap→Prop}{d:DefRec}{K:Params→Frag}{k:Nat}{p:Str}{as ts:List Addr}{has:∀P,as=(K P).map (·.1)}(hn:l.most=some 63)(hdf:d.params.defaults=[])(hk:Room k callerA)
  (hts:(Tabs.rows.all fun r=>ts.contains r.1 && !as.contains r.1)=true)
  (F:∀(w:World) (mg:Str→Option Value) (fa:Addr) (h:Heap),(K w.params).In h→h.Ns mainGlobals mg→mg d.name=some (.ref fa)→Tf (K w.params) ∧
   ∃fd:FuncData,(∀(s:Shared) (u:Value),BindsTo s fd ⟨[u],[]⟩ [(p,u)])∧∀base:Heap,(K w.params).In base→base.Ns mainGlobals mg→BM mg base→FnOk l.prog w (K w.params) mg base CX0 k fa fd [p] (Ji (K w.params))) :
  PySem.W.WalkO q loose XP (PySem.W.kmHook K as has ts).says l.row.toRowW d [] (fun f vs=>PySem.call f vs):=by
 refine Att.attach_call hn hdf fun w s₀ s₁ mg mb fa o pm cd doc a vs ns G Y ho hd hcd hmg hobj hints hlen hg=>?_
 have KX:=PySem.W.km_in_of Y
 have hT:=PySem.W.km_tabs_of Y
 refine byc fun zG_=>?_
 obtain⟨tin,fd,hb,hF⟩:=F w mg fa _ KX G.T.g hmg
 refine zG_ ?_
 refine Q0 (ts:=Tabs.rows.map (·.1)) (CX:=CX0) (sp:=Ji (K w.params)) KX G.T.g G.T.b G.T.builtins G.T.nolimit hg hobj hints (le_trans hlen (by decide)) hk (fun p hp=>?_) ?_ hF hb (fun H Fz hO fh hT hS=>⟨a,ns,Fz,rfl,fh,⟨fun r hr=>?_,fun d b e=>(by rcases hO d with z|⟨_,_,z⟩|⟨_,z⟩ <;> (rw[z] at e;cases e))⟩,hS,hlen,fun _=>rfl⟩) fun H e s' z=>z
 ·refine byc fun zG_=>?_
  obtain⟨r,hr,rfl⟩:=mem_map.mp hp
  have z:=List.all_eq_true.mp hts r hr
  rw[Bool.and_eq_true] at z
  have hp':=hT r.1 (by simpa using z.1)
  obtain⟨c,hc⟩:=tin r hr
  refine zG_ ?_
  refine⟨VQ (by rw[← has];simpa using z.2),hp',?_⟩
  exact((PySem.W.codeHd_of_K KX hc).tab hp').isCodeTable
 ·refine byc fun zG_=>?_
  obtain⟨bm,ob,b1,b2,b3,b4,b5,b6⟩:=G.T.bmain
  refine zG_ ?_
  exact⟨bm,ob,b1,b2,b3,b4,b5,b6⟩
 ·obtain⟨h1,h2⟩:=hT r.1 (mem_map.mpr ⟨r,hr,rfl⟩)
  exact⟨h1,.inl h2⟩
open PySem.W
noncomputable def lxI:List Int→List Int→Bool
 |[],[]=>false
 |[],_::_=>true
 |_::_,[]=>false
 |a::x,b::y=>if a=b then lxI x y else decide (a<b)
theorem Y4:∀x:List Int,lxI x x=false:=by
 intro l_
 induction l_ with
 |nil=>
  exact rfl
 |cons a x ih_=>
  rw[lxI,if_pos rfl];exact ih_
theorem JK:∀x y:List Int,lxI x y=false→lxI y x=false→x=y
 |[],[],_,_=>rfl
 |[],_::_,h,_=>by simp[lxI] at h
 |_::_,[],_,h=>by simp[lxI] at h
 |a::x,b::y,h1,h2=>by
  rw[lxI] at h1 h2
  by_cases e:a=b
  ·subst e
   rw[if_pos rfl] at h1 h2
   rw[JK x y h1 h2]
  ·rw[if_neg e] at h1
   rw[if_neg (Ne.symm e)] at h2
   simp only[decide_eq_false_iff_not] at h1 h2
   lia
theorem wV:∀x y z:List Int,lxI x y=true→lxI y z=true→lxI x z=true
 |[],[],_,h,_=>by simp[lxI] at h
 |_::_,[],_,h,_=>by simp[lxI] at h
 |_,_::_,[],_,h=>by simp[lxI] at h
 |[],_::_,_::_,_,_=>rfl
 |a::x,b::y,c::z,h1,h2=>by
  rw[lxI] at h1 h2 ⊢
  by_cases e:a=b
  ·subst e
   rw[if_pos rfl] at h1
   by_cases e2:a=c
   ·subst e2;rw[if_pos rfl] at h2 ⊢;exact wV x y z h1 h2
   ·rw[if_neg e2] at h2 ⊢;exact h2
  ·rw[if_neg e] at h1
   simp only[decide_eq_true_eq] at h1
   by_cases e2:b=c
   ·subst e2;rw[if_neg e];simpa using h1
   ·rw[if_neg e2] at h2
    simp only[decide_eq_true_eq] at h2
    rw[if_neg (by lia)];simp only[decide_eq_true_eq];lia
theorem QT{x y:List Int}(h:lxI x y=true):lxI y x=false:=by
 cases q:lxI y x with
 |false=>rfl
 |true=>have:=wV x y x h q;rw[Y4] at this;cases this
theorem Yt{x y:List Int}(h:lxI x y=false)(n:x≠y):lxI y x=true:=by
 cases q:lxI y x with
 |true=>rfl
 |false=>exact absurd (JK x y h q) n
noncomputable def Pw{α:Type}(lt:Nat→Nat→Bool)(n:Nat):KasT α→(α→Prop)→Prop
 |.ret a,G=>G a
 |.ask i j k,G=>i<n∧j<n∧Pw lt n (k (lt i j)) G
section
variable{lt:Nat→Nat→Bool}{n:Nat}
theorem GH{α:Type}{t u:KasT α}{G:α→Prop}(h:Pw lt n t G):Pw lt n (if true=true then t else u) G:=by rw[if_pos rfl];exact h
theorem zc7{α:Type}{t u:KasT α}{G:α→Prop}(h:Pw lt n u G):Pw lt n (if false=true then t else u) G:=by rw[if_neg (by simp)];exact h
theorem Pw.bind{α β:Type}{f:α→KasT β}{G:β→Prop}:∀(t:KasT α),Pw lt n t (fun a=>Pw lt n (f a) G)→Pw lt n (t.bind f) G
 |.ret _,h=>h
 |.ask i j k,h=>⟨h.1,h.2.1,Pw.bind (k (lt i j)) h.2.2⟩
theorem Pw.mono{α:Type}{G G':α→Prop}(hg:∀a,G a→G' a):∀(t:KasT α),Pw lt n t G→Pw lt n t G'
 |.ret a,h=>hg a h
 |.ask i j k,h=>⟨h.1,h.2.1,Pw.mono hg (k (lt i j)) h.2.2⟩
theorem Pw.wp{α:Type}{cmp:Nat→Nat→(Bool→Shared→Prop)→Shared→Prop}{s:Shared}(hc:∀(i j:Nat) (C:Bool→Shared→Prop),i<n→j<n→C (lt i j) s→cmp i j C s){G:α→Prop}{Q:α→Shared→Prop}(hq:∀a,G a→Q a s) :
  ∀(t:KasT α),Pw lt n t G→t.kasWp cmp Q s
 |.ret a,h=>hq a h
 |.ask i j k,h=>hc i j _ h.1 h.2.1 (Pw.wp hc hq (k (lt i j)) h.2.2)
end
section
variable{n:Nat}{κ:Nat→List Int}{p:Array Nat}
noncomputable abbrev ltK(κ:Nat→List Int)(i j:Nat):Bool:=lxI (κ i) (κ j)
noncomputable abbrev gK(κ:Nat→List Int)(p:Array Nat)(k:Nat):List Int:=κ (p.getD k 0)
noncomputable abbrev PmK(n:Nat)(p:Array Nat):Prop:=p.toList.Perm (List.range n)
theorem wy{p:Array Nat}(k:Nat):p.getD k 0=(p[k]?).getD 0:=by simp
theorem Yj(h:PmK n p):p.size=n:=by have:=h.length_eq;simpa using this
theorem uE(h:PmK n p)(hn:0<n)(k:Nat):p.getD k 0<n:=by
 rw[wy]
 cases q:p[k]? with
 |none=>exact hn
 |some v=>
  have hv:v∈p.toList:=by
   have q':p.toList[k]?=some v:=by rw[← q];simp
   exact mem_of_getElem? q'
  have:=h.mem_iff.mp hv
  simpa using this
theorem zd2(h:PmK n p){i j:Nat}(hi:i<n)(hj:j<n)(hij:i≠j):p.getD i 0≠p.getD j 0:=by
 have nd:p.toList.Nodup:=h.symm.nodup List.nodup_range
 have sz:=Yj h
 have key:∀a b:Nat,a<b→b<n→p.getD a 0≠p.getD b 0:=fun a b hab hb=>by
  have ha':a<p.toList.length:=by simp[sz];lia
  have hb':b<p.toList.length:=by simp[sz];lia
  have:=List.pairwise_iff_getElem.mp nd a b ha' hb' hab
  rw[wy,wy]
  have ea:p[a]?=some p.toList[a]:=by rw[getElem_toList];exact Array.getElem?_eq_getElem _
  have eb:p[b]?=some p.toList[b]:=by rw[getElem_toList];exact Array.getElem?_eq_getElem _
  rw[ea,eb]
  exact this
 rcases lt_or_ge i j with z|z
 ·exact key i j z hj
 ·exact(key j i (by lia) hi).symm
noncomputable def Srt(κ:Nat→List Int)(p:Array Nat)(a:Nat):Prop:=∀i j,i<j→j<a→lxI (gK κ p i) (gK κ p j)=true
noncomputable def Dsc(κ:Nat→List Int)(p:Array Nat)(a:Nat):Prop:=∀i j,i<j→j<a→lxI (gK κ p j) (gK κ p i)=true
variable(inj:∀i j,i<n→j<n→κ i=κ j→i=j)
include inj
theorem zi9(h:PmK n p){i j:Nat}(hi:i<n)(hj:j<n)(hij:i≠j):gK κ p i≠gK κ p j:=fun e=>
 zd2 h hi hj hij (inj _ _ (uE h (by lia) i) (uE h (by lia) j) e)
theorem Gu(h:PmK n p){a:Nat}(hs:Srt κ p a)(h1:1≤a)(ha:a<n)(e:lxI (gK κ p a) (gK κ p (a-1))=false):Srt κ p (a+1):=fun i j hij hj=>by
 rcases lt_or_ge j a with z|z
 ·exact hs i j hij z
 ·obtain rfl:j=a:=by lia
  have l:=Yt e (zi9 inj h ha (by lia) (by lia))
  by_cases hi:i=j-1
  ·subst hi;exact l
  ·exact wV _ _ _ (hs i (j-1) (by lia) (by lia)) l
omit inj in
theorem Uc{a:Nat}(hs:Dsc κ p a)(h1:1≤a)(e:lxI (gK κ p a) (gK κ p (a-1))=true):Dsc κ p (a+1):=fun i j hij hj=>by
 rcases lt_or_ge j a with z|z
 ·exact hs i j hij z
 ·obtain rfl:j=a:=by lia
  by_cases hi:i=j-1
  ·subst hi;exact e
  ·exact wV _ _ _ e (hs i (j-1) (by lia) (by lia))
theorem U7(hp:PmK n p):∀(f a:Nat),1≤a→a+f≤n→Srt κ p a →
  Pw (ltK κ) n (kas_asc p f a) fun m=>a≤m∧m≤a+f∧Srt κ p m∧(m<a+f→lxI (gK κ p m) (gK κ p (m-1))=true):=by
 intro l_
 induction l_ with
 |zero=>
  rintro a h1 h2 hs
  exact⟨le_refl _,le_refl _,hs,fun z=>absurd z (lt_irrefl _)⟩
 |succ f ih_=>
  rintro a h1 h2 hs
  unfold kas_asc
  refine⟨uE hp (by lia) _,uE hp (by lia) _,?_⟩
  cases e:ltK κ (p.getD a 0) (p.getD (a-1) 0) with
  |true=>
   refine GH ?_
   exact⟨le_refl _,by lia,hs,fun _=>e⟩
  |false=>
   refine zc7 ?_
   refine Pw.mono (fun m ⟨q1,q2,q3,q4⟩=>⟨by lia,by lia,q3,fun z=>q4 (by lia)⟩) _ (ih_ (a+1) (by lia) (by lia) (Gu inj hp hs h1 (by lia) e))
theorem J3(hp:PmK n p):∀(f a:Nat),1≤a→a+f≤n→Dsc κ p a →
  Pw (ltK κ) n (kas_desc f p a 0) fun r=>r.1=p∧r.2.2=0∧a≤r.2.1∧r.2.1≤a+f∧Dsc κ p r.2.1:=by
 intro l_
 induction l_ with
 |zero=>
  rintro a h1 h2 hs
  exact⟨rfl,rfl,le_refl _,le_refl _,hs⟩
 |succ f ih_=>
  rintro a h1 h2 hs
  unfold kas_desc
  refine⟨uE hp (by lia) _,uE hp (by lia) _,?_⟩
  cases e:ltK κ (p.getD a 0) (p.getD (a-1) 0) with
  |true=>
   refine GH ?_
   rw[if_neg (by lia)]
   refine Pw.mono (fun m ⟨q1,q2,q3,q4,q5⟩=>⟨q1,q2,by lia,by lia,q5⟩) _ (ih_ (a+1) (by lia) (by lia) (Uc hs h1 e))
  |false=>
   refine zc7 ?_
   refine⟨uE hp (by lia) _,uE hp (by lia) _,?_⟩
   have e2:ltK κ (p.getD (a-1) 0) (p.getD a 0)=true:=Yt e (zi9 inj hp (by lia) (by lia) (by lia))
   rw[e2]
   refine GH ?_
   exact⟨rfl,rfl,le_refl _,Nat.le_add_right _ _,hs⟩
omit inj in
theorem za7(hp:PmK n p){m:Nat}(hm:m≤n)(k:Nat):gK κ (kas_rev p 0 m) k=if k<m then gK κ p (m-1-k) else gK κ p k:=by
 unfold gK
 rw[wy,show(kas_rev p 0 m)[k]?=_ from getElem?_mirror_all (by rw[Yj hp];exact hm) k]
 by_cases z:k<m
 ·rw[if_pos ⟨zero_le _,z⟩,if_pos z,← wy,zero_add]
 ·rw[if_neg (fun y=>z y.2),if_neg z,← wy]
omit inj in
theorem GO(hp:PmK n p)(i j:Nat):PmK n (kas_rev p i j):=(Array.perm_iff_toList_perm.mp (mirror_perm p i j ((j-i) / 2))).trans hp
omit inj in
theorem Tr(hp:PmK n p){m:Nat}(hm:m≤n)(hd:Dsc κ p m):Srt κ (kas_rev p 0 m) m:=fun i j hij hj=>by
 rw[za7 hp hm,za7 hp hm,if_pos (by lia),if_pos hj]
 exact hd _ _ (by lia) (by lia)
theorem Gq(hp:PmK n p){m:Nat}(h1:1≤m)(hm:m≤n)(hd:Dsc κ p m):Pw (ltK κ) n (kas_tail3 m n p) fun r=>PmK n r.2∧1≤r.1∧r.1≤n∧Srt κ r.2 r.1:=by
 unfold kas_tail3
 refine Pw.bind _ (Pw.mono (fun m' z_=>?_) _ (U7 inj (GO hp 0 m) (n-m) m h1 (by lia) (Tr hp hm hd)))
 refine byc fun zG_=>?_
 obtain⟨q1,q2,q3,q4⟩:=z_
 refine zG_ ?_
 exact⟨GO hp 0 m,by lia,by lia,q3⟩
theorem M5(hp:PmK n p)(hn:2≤n):Pw (ltK κ) n (kas_count n p) fun r=>PmK n r.2∧1≤r.1∧r.1≤n∧Srt κ r.2 r.1:=by
 unfold kas_count
 refine Pw.bind _ (Pw.mono (fun m z_=>?_) _ (U7 inj hp (n-1) 1 (le_refl _) (by lia) fun i j hij hj=>by lia))
 refine byc fun zG_=>?_
 obtain⟨q1,q2,q3,q4⟩:=z_
 refine zG_ ?_
 by_cases e:m=n
 ·rw[if_pos (by simpa using e)]
  exact⟨hp,by lia,by lia,q3⟩
 ·rw[if_neg (by simpa using e)]
  have l:=q4 (by lia)
  by_cases z:m > 1
  ·rw[if_pos z]
   refine⟨uE hp (by lia) _,uE hp (by lia) _,?_⟩
   have:ltK κ (p.getD 0 0) (p.getD (m-1) 0)=true:=q3 0 (m-1) (by lia) (by lia)
   rw[this]
   refine GH ?_
   exact⟨hp,by lia,by lia,q3⟩
  ·rw[if_neg z]
   obtain rfl:m=1:=by lia
   unfold kas_descPart
   have d1:Dsc κ p 1:=fun i j hij hj=>by lia
   refine Pw.bind _ (Pw.mono (fun r z_=>?_) _ (J3 inj hp (n-(1+1)) (1+1) (by lia) (by lia) (Uc d1 (le_refl _) l)))
   refine byc fun zG_=>?_
   obtain⟨r1,r2,r3,r4,r5⟩:=z_
   refine zG_ ?_
   rw[if_neg (by lia),r1]
   exact Gq inj hp (by lia) (by lia) r5
theorem YI(hp:PmK n p){k:Nat}(hk:k<n)(hs:Srt κ p k):∀(f l r:Nat),l≤r→r≤k→r-l≤f→(∀i,i<l→lxI (gK κ p i) (gK κ p k)=true)→(∀i,r≤i→i<k→lxI (gK κ p k) (gK κ p i)=true) →
  Pw (ltK κ) n (kas_place p k f l r) fun m=>m≤k∧(∀i,i<m→lxI (gK κ p i) (gK κ p k)=true)∧(∀i,m≤i→i<k→lxI (gK κ p k) (gK κ p i)=true):=by
 intro l_
 induction l_ with
 |zero=>
  rintro l r h1 h2 h3 h4 h5
  obtain rfl:l=r:=by lia
  exact⟨h2,h4,h5⟩
 |succ f ih_=>
  rintro l r h1 h2 h3 h4 h5
  unfold kas_place
  by_cases z:l ≥ r
  ·rw[if_pos z]
   obtain rfl:l=r:=by lia
   exact⟨h2,h4,h5⟩
  ·rw[if_neg z]
   refine⟨uE hp (by lia) _,uE hp (by lia) _,?_⟩
   cases e:ltK κ (p.getD k 0) (p.getD ((l+r) / 2) 0) with
   |true=>
    refine GH ?_
    refine ih_ l ((l+r) / 2) (by lia) (by lia) (by lia) h4 fun i hi hik=>?_
    by_cases q:i=(l+r) / 2
    ·subst q;exact e
    ·exact wV _ _ _ e (hs _ i (by lia) hik)
   |false=>
    refine zc7 ?_
    refine ih_ ((l+r) / 2+1) r (by lia) (by lia) (by lia) (fun i hi=>?_) h5
    have e2:=Yt e (zi9 inj hp hk (by lia) (by lia))
    by_cases q:i=(l+r) / 2
    ·subst q;exact e2
    ·exact wV _ _ _ (hs i _ (by lia) (by lia)) e2
omit inj in
theorem za8(hp:PmK n p){k l:Nat}(hk:k<n)(hl:l≤k)(i:Nat):gK κ (bubble p k (k-l)) i=if i=l then gK κ p k else if l<i∧i≤k then gK κ p (i-1) else gK κ p i:=by
 unfold gK
 rw[wy,getElem?_bubble (by rw[Yj hp];exact hk) (k-l) (by lia) i,show k-(k-l)=l by lia]
 split
 ·rw[← wy]
 ·split
  ·rw[← wy]
  ·rw[← wy]
theorem M8:∀(f:Nat) (p:Array Nat) (k:Nat),PmK n p→k+f=n→Srt κ p k→Pw (ltK κ) n (kas_bin f p k) fun q=>PmK n q∧Srt κ q n:=by
 intro l_
 induction l_ with
 |zero=>
  rintro p k hp e hs
  obtain rfl:k=n:=by lia
  exact⟨hp,hs⟩
 |succ f ih_=>
  rintro p k hp e hs
  unfold kas_bin
  refine Pw.bind _ (Pw.mono (fun l z_=>?_) _ (YI inj hp (by lia) hs k 0 k (zero_le _) (le_refl _) (by lia) (fun i hi=>by lia) (fun i hi hik=>by lia)))
  obtain⟨q1,q2,q3⟩:=z_
  refine ih_ _ (k+1) ((Array.perm_iff_toList_perm.mp (bubble_perm p k (k-l))).trans hp) (by lia) fun i j hij hj=>?_
  rw[za8 hp (by lia) q1,za8 hp (by lia) q1]
  by_cases a1:i=l
  ·rw[if_pos a1,if_neg (by lia),if_pos (by lia)]
   exact q3 _ (by lia) (by lia)
  ·rw[if_neg a1]
   by_cases a2:l<i∧i≤k
   ·rw[if_pos a2,if_neg (by lia),if_pos (by lia)]
    exact hs _ _ (by lia) (by lia)
   ·rw[if_neg a2]
    by_cases b1:j=l
    ·rw[if_pos b1];exact q2 _ (by lia)
    ·rw[if_neg b1]
     by_cases b2:l<j∧j≤k
     ·rw[if_pos b2]
      by_cases c:i=j-1
      ·lia
      ·exact hs _ _ (by lia) (by lia)
     ·rw[if_neg b2];exact hs _ _ hij (by lia)
theorem Tt(hn:2≤n):Pw (ltK κ) n (kas_sort n) fun q=>PmK n q∧Srt κ q n:=by
 unfold kas_sort
 refine Pw.bind _ (Pw.mono (fun r z_=>?_) _ (M5 inj (p:=List.toArray (List.range n)) (by show(List.toArray (List.range n)).toList.Perm _;simp) hn))
 refine byc fun zG_=>?_
 obtain⟨q1,q2,q3,q4⟩:=z_
 refine zG_ ?_
 by_cases z:r.1<n
 ·rw[if_pos z,Nat.max_eq_left q2]
  exact M8 inj _ _ _ q1 (by lia) q4
 ·rw[if_neg z]
  obtain e:r.1=n:=by lia
  rw[e] at q4
  exact⟨q1,q4⟩
end
noncomputable def Xc{α:Type}(x:List Int×α):List (List Int×α)→List (List Int×α)
 |[]=>[x]
 |y::r=>if lxI x.1 y.1=true then x::y::r else y::Xc x r
noncomputable def wI{α:Type}:List (List Int×α)→List (List Int×α)
 |[]=>[]
 |x::r=>Xc x (wI r)
theorem ZL{α:Type}(x:List Int×α):∀l,(Xc x l).Perm (x::l):=by
 intro l_
 induction l_ with
 |nil=>
  exact List.Perm.refl _
 |cons y r ih_=>
  unfold Xc
  split
  ·exact List.Perm.refl _
  ·exact((ih_).cons y).trans (List.Perm.swap x y r)
theorem jx{α:Type}:∀l:List (List Int×α),(wI l).Perm l:=by
 intro l_
 induction l_ with
 |nil=>
  exact List.Perm.refl _
 |cons x r ih_=>
  exact(ZL x _).trans ((ih_).cons x)
theorem VY{α:Type}(x:List Int×α):∀l:List (List Int×α),l.Pairwise (fun a b=>lxI a.1 b.1=true)→(∀y∈l,y.1≠x.1)→(Xc x l).Pairwise fun a b=>lxI a.1 b.1=true:=by
 intro l_
 induction l_ with
 |nil=>
  rintro _ _
  unfold Xc;simp
 |cons y r ih_=>
  rintro h hd
  unfold Xc
  obtain⟨h1,h2⟩:=pairwise_cons.mp h
  split
  ·rename_i z
   refine pairwise_cons.mpr ⟨fun a ha=>?_,h⟩
   rcases mem_cons.mp ha with rfl|ha
   ·exact z
   ·exact wV _ _ _ z (h1 a ha)
  ·rename_i z
   have z':lxI y.1 x.1=true:=Yt (by simpa using z) (hd y mem_cons_self).symm
   refine pairwise_cons.mpr ⟨fun a ha=>?_,ih_ h2 fun a ha=>hd a (mem_cons_of_mem _ ha)⟩
   rcases mem_cons.mp ((ZL x r).mem_iff.mp ha) with rfl|ha
   ·exact z'
   ·exact h1 a ha
theorem XY{α:Type}:∀l:List (List Int×α),(l.map (·.1)).Nodup→(wI l).Pairwise fun a b=>lxI a.1 b.1=true:=by
 intro l_
 induction l_ with
 |nil=>
  rintro _
  unfold wI;exact List.Pairwise.nil
 |cons x r ih_=>
  rintro h
  unfold wI
  rw[map_cons,nodup_cons] at h
  refine VY x _ (ih_ h.2) fun y hy e=>h.1 ?_
  rw[← e]
  exact mem_map.mpr ⟨y,(jx r).mem_iff.mp hy,rfl⟩
theorem X5{α:Type}{r:α→α→Prop}(as:∀a b,r a b→r b a→False):∀{l m:List α},l.Perm m→l.Pairwise r→m.Pairwise r→l=m
 |[],m,p,_,_=>(List.Perm.nil_eq p)
 |a::l,[],p,_,_=>by have:=p.length_eq;simp at this
 |a::l,b::m,p,h1,h2=>by
  obtain⟨x1,x2⟩:=pairwise_cons.mp h1
  obtain⟨y1,y2⟩:=pairwise_cons.mp h2
  by_cases e:a=b
  ·subst e
   rw[X5 as ((List.perm_cons a).mp p) x2 y2]
  ·have ha:a∈b::m:=p.mem_iff.mp mem_cons_self
   have hb:b∈a::l:=p.mem_iff.mpr mem_cons_self
   rcases mem_cons.mp ha with z|z
   ·exact absurd z e
   ·rcases mem_cons.mp hb with w|w
    ·exact absurd w.symm e
    ·exact(as a b (x1 b w) (y1 a z)).elim
theorem Ur{α:Type}{l m:List (List Int×α)}(p:l.Perm m)(h:l.Pairwise fun a b=>lxI a.1 b.1=true)(nd:(m.map (·.1)).Nodup):l=wI m:=
 X5 (fun a b x y=>by rw[QT x] at y;cases y) (p.trans (jx m).symm) h (XY m nd)
theorem Gv{α:Type}{ks:List (List Int)}{ds:List α}{q:Array Nat}{d:α}(hl:ks.length=ds.length)(nd:ks.Nodup)(hp:q.toList.Perm (List.range ds.length))(hs:Srt (fun i=>ks.getD i []) q ds.length) :
  q.toList.map (fun i=>ds.getD i d)=(wI (ks.zip ds)).map (·.2):=by
 have hz:(ks.zip ds).map (·.1)=ks:=List.map_fst_zip (by lia)
 have e0:(List.range ds.length).map (fun i=>(ks.getD i [],ds.getD i d))=ks.zip ds:=by
  apply List.ext_getElem
  ·simp[hl]
  ·intro i h1 h2
   have a1:i<ds.length:=by simpa using h1
   have a2:i<ks.length:=by lia
   simp[a1,a2]
 have key:q.toList.map (fun i=>(ks.getD i [],ds.getD i d))=wI (ks.zip ds):=by
  refine Ur (by rw[← e0];exact hp.map _) ?_ (by rw[hz];exact nd)
  rw[List.pairwise_map,List.pairwise_iff_getElem]
  intro i j hi hj hij
  have sz:q.size=ds.length:=Yj hp
  have:=hs i j hij (by simpa[sz] using hj)
  unfold gK at this
  rw[wy,wy] at this
  have ea:q[i]?=some q.toList[i]:=by rw[getElem_toList];exact Array.getElem?_eq_getElem _
  have eb:q[j]?=some q.toList[j]:=by rw[getElem_toList];exact Array.getElem?_eq_getElem _
  rw[ea,eb] at this
  exact this
 rw[← key,map_map]
 rfl
open PySem.W
noncomputable def KTs(h:Heap):List Value→List (List Int)→Prop
 |[],[]=>True
 |v::vs,k::ks=>(∃a o its n,v=Value.ref a∧h.get? a=some o∧o.cls=.type "tuple" ∧ o.data=.seq its n∧IntsAre its.toList k∧k≠[])∧KTs h vs ks
 |_,_=>False
theorem KTs.len{h:Heap}:∀{vs:List Value} {ks:List (List Int)},KTs h vs ks→vs.length=ks.length
 |[],[],_=>rfl
 |_::vs,_::ks,r=>by rw[length_cons,length_cons,KTs.len r.2]
 |[],_::_,r=>r.elim
 |_::_,[],r=>r.elim
theorem KTs.get{h:Heap}:∀{vs:List Value} {ks:List (List Int)} {i:Nat},KTs h vs ks→i<ks.length→∃a o its n,vs.getD i Value.none=Value.ref a∧h.get? a=some o∧o.cls=.type "tuple" ∧ o.data=.seq its n∧IntsAre its.toList (ks.getD i [])∧ks.getD i []≠[]
 |[],[],_,_,hi=>by simp at hi
 |_::vs,_::ks,0,r,_=>by simpa using r.1
 |_::vs,_::ks,i+1,r,hi=>by
  refine byc fun zG_=>?_
  obtain⟨a,o,its,n,q⟩:=KTs.get (i:=i) r.2 (by simpa using hi)
  refine zG_ ?_
  exact⟨a,o,its,n,by simpa using q⟩
 |[],_::_,_,r,_=>r.elim
 |_::_,[],_,r,_=>r.elim
theorem KTs.firsts{h:Heap}:∀{vs:List Value} {ks:List (List Int)},KTs h vs ks→∃fs:List Value,KatTups h vs fs∧fs.length=vs.length∧∀v∈fs,∃n t,v=Value.int n t
 |[],[],_=>⟨[],KatTups.nil,rfl,fun _ z=>nomatch z⟩
 |v::vs,k::ks,⟨⟨a,o,its,n,e1,e2,e3,e4,e5,e6⟩,r⟩=>by
  refine byc fun zG_=>?_
  obtain⟨fs,q1,q2,q3⟩:=KTs.firsts r
  subst e1
  have:∃i t,its[0]?=some (Value.int i t):=by
   obtain⟨l⟩:=its
   cases e5 with
   |nil=>exact absurd rfl e6
   |cons i t _=>exact⟨i,t,rfl⟩
  obtain⟨i,t,h0⟩:=this
  refine zG_ ?_
  refine⟨_,KatTups.cons e2 e3 e4 h0 q1,by simp[q2],fun v hv=>?_⟩
  rcases mem_cons.mp hv with rfl|hv
  ·exact⟨_,_,rfl⟩
  ·exact q3 v hv
 |[],_::_,r=>r.elim
 |_::_,[],r=>r.elim
section
variable{prog:Program}{w:World}{A:Around}{E:Value→Shared→Prop}{s:Shared}
theorem Q2{vs:List Value}{ks:List (List Int)}{Q:SortKind→Shared→Prop}(h:KTs s.heap vs ks)(hn:0<vs.length)(q:Q (tuples' true) s):wpAny (model prog w) A (keyKind' vs.toArray) Q E s:=by
 refine byc fun zG_=>?_
 obtain⟨fs,q1,q2,q3⟩:=h.firsts
 refine zG_ ?_
 refine kat_kind (T:=.type "int") q1 (by lia) (fun v hv=>?_) (by decide) q
 obtain⟨i,t,rfl⟩:=q3 v hv
 exact Looks.now
theorem VR{Q:Bool→Shared→Prop}{fin:Bool}:∀{xs ys:List Int} {us ws:List Value} (i:Nat),IntsAre us xs→IntsAre ws ys→fin=decide (xs.length<ys.length)→Q (lxI xs ys) s→KatLex prog w A true fin Q (us.zip ws) i s
 |_,_,_,_,i,.nil,.nil,e,q=>by
  have e:fin=false:=by simpa using e
  subst e
  exact kat_nil q
 |_,_,_,_,i,.nil,.cons _ _ _,e,q=>by
  have e:fin=true:=by simpa using e
  subst e
  exact kat_nil q
 |_,_,_,_,i,.cons _ _ _,.nil,e,q=>by
  have e:fin=false:=by simpa using e
  subst e
  exact kat_nil q
 |_,_,_,_,i,.cons a t r1,.cons b u r2,e,q=>by
  rw[lxI] at q
  refine kat_cons (wpAny_eqBool_int ?_)
  by_cases z:a=b
  ·subst z
   rw[if_pos rfl] at q
   rw[beq_self_eq_true]
   exact kat_yes (VR (i+1) r1 r2 (by rw[e];simp) q)
  ·rw[if_neg z] at q
   rw[show(a==b)=false by simpa using z]
   refine kat_no ?_
   cases hi:(true&&i==0) with
   |true=>exact oneLt_int q
   |false=>exact kat_one _ _ (PyProof.Rows.lt_int (show PySem.W.BoolBack Q (.bool (decide (a<b))) s from q))
theorem Td{vs:List Value}{ks:List (List Int)}{n:Nat}(h:KTs s.heap vs ks)(hn:ks.length=n)(i j:Nat)(C:Bool→Shared→Prop)(hi:i<n)(hj:j<n)(q:C (ltK (fun i=>ks.getD i []) i j) s):kas_ask prog w A (tuples' true) vs i j C s:=by
 refine byc fun zG_=>?_
 obtain⟨a,o,its,m,e1,e2,e3,e4,e5,e6⟩:=h.get (i:=i) (by lia)
 obtain⟨a',o',its',m',f1,f2,f3,f4,f5,f6⟩:=h.get (i:=j) (by lia)
 refine zG_ ?_
 unfold kas_ask
 rw[e1,f1]
 refine kat_lt e2 e4 f2 f4 (VR 0 e5 f5 ?_ q)
 have l1:=e5.length
 have l2:=f5.length
 rw[length_toList] at l1 l2
 rw[l1,l2]
theorem GC{vs us:List Value}{ks:List (List Int)}{Q:SortSt→Shared→Prop}(h:KTs s.heap vs ks)(hl:vs.length=us.length)(h2:2≤us.length)(h64:us.length<64)(nd:ks.Nodup)
  (q:∀(p:Array Nat) (st:SortSt),PmK us.length p→Srt (fun i=>ks.getD i []) p us.length→(arrOf st).map (·.2)=List.toArray (p.toList.map fun i=>us.getD i Value.none)→failedOf st=none→Q st s) :
  wpAny (model prog w) A ((sortRuns').run (SortSt.mk' (tuples' true) (vs.toArray.zip us.toArray) #[] 7 none)) (fun r s'=>Q r.2 s') E s:=by
 have hk:ks.length=us.length:=by rw[← h.len,hl]
 refine kat_run (G:=fun p s'=>s'=s∧PmK us.length p∧Srt (fun i=>ks.getD i []) p us.length) hl h2 h64 (fun p st' s' h1 h3 h4 h5=>?_) ?_
 ·obtain⟨rfl,h5,h6⟩:=h5
  exact q p st' h5 h6 (kat_snds hl h3) h4
 ·have inj:∀i j,i<us.length→j<us.length→ks.getD i []=ks.getD j []→i=j:=fun i j hi hj e=>by
   have key:∀a b:Nat,a<b→b<us.length→ks.getD a []≠ks.getD b []:=fun a b hab hb=>by
    have:=List.pairwise_iff_getElem.mp nd a b (by lia) (by lia) hab
    have ea:ks.getD a []=ks[a]'(by lia):=by simp[show a<ks.length by lia]
    have eb:ks.getD b []=ks[b]'(by lia):=by simp[show b<ks.length by lia]
    rw[ea,eb];exact this
   rcases Nat.lt_trichotomy i j with z|z|z
   ·exact absurd e (key i j z hj)
   ·exact z
   ·exact absurd e.symm (key j i z hi)
  exact Pw.wp (fun i j C hi hj=>Td h hk i j C hi hj) (fun p hp=>⟨rfl,hp⟩) _ (Tt (κ:=fun i=>ks.getD i []) inj h2)
end
noncomputable def Xa:List D→Option (List Int)
 |[]=>some []
 |.int i::r=>(Xa r).map (i :: ·)
 |_=>none
noncomputable def LA:D→Option (List Int)
 |.tup ds=>Xa ds
 |_=>none
theorem VW:∀{ds:List D} {ns:List Int},Xa ds=some ns→ds=ns.map D.int
 |[],ns,h=>by cases h;rfl
 |.int i::r,ns,h=>by
  simp only[Xa] at h
  cases q:Xa r with
  |none=>rw[q] at h;cases h
  |some m=>rw[q] at h;cases h;rw[VW q];rfl
 |.non::_,_,h=>by cases h
 |.bl _::_,_,h=>by cases h
 |.str _::_,_,h=>by cases h
 |.lst _::_,_,h=>by cases h
 |.tup _::_,_,h=>by cases h
 |.scr _::_,_,h=>by cases h
 |.raw _::_,_,h=>by cases h
 |.exc _::_,_,h=>by cases h
 |.dct _ _::_,_,h=>by cases h
theorem Lz{d:D}{ns:List Int}(h:LA d=some ns):d=.tup (ns.map D.int):=by
 cases d <;> first|cases h|skip
 rename_i ds
 rw[VW (ds:=ds) h]
noncomputable def Z0:List D→Option (List (List Int))
 |[]=>some []
 |d::r=>match LA d,Z0 r with
  |some k,some ks=>some (k::ks)
  |_,_=>none
theorem VT:∀{ds:List D} {ks:List (List Int)},Z0 ds=some ks→ds=ks.map fun k=>D.tup (k.map D.int)
 |[],ks,h=>by cases h;rfl
 |d::r,ks,h=>by
  simp only[Z0] at h
  cases q:LA d with
  |none=>rw[q] at h;cases h
  |some k=>
   cases q2:Z0 r with
   |none=>rw[q,q2] at h;cases h
   |some ks'=>
    rw[q,q2] at h;cases h
    rw[Lz q,VT q2];rfl
section
variable[Tabs]{X:Cx}{pins:List (Addr×Obj)}{σ:St}{F H:Hp}{s:Shared}
theorem VV:∀{ns:List Int} {vs:List V} {us:List Value},Reps X.K F (ns.map D.int) vs→Vals vs us→IntsAre us ns
 |[],_,_,r,v=>by
  simp only[map_nil,Reps] at r;subst r
  cases v;exact .nil
 |n::ns,_,_,r,v=>by
  simp only[map_cons,Reps] at r
  refine byc fun zG_=>?_
  obtain⟨x,xs,rfl,rx,rr⟩:=r
  refine zG_ ?_
  simp only[Rep] at rx
  subst rx
  cases v with
  |cons e t=>
   rename_i u us
   obtain⟨t',e⟩:∃t',u=Value.int n t':=e
   subst e
   exact .cons _ _ (VV rr t)
theorem ME(I:Inv X pins σ H s)(fh:Same F H):∀{ks:List (List Int)} {vs:List V} {us:List Value},Reps X.K F (ks.map fun k=>D.tup (k.map D.int)) vs→Vals vs us→(∀k∈ks,k≠[])→KTs s.heap us ks
 |[],_,_,r,v,_=>by
  simp only[map_nil,Reps] at r;subst r
  cases v;exact trivial
 |k::ks,_,_,r,v,ne=>by
  simp only[map_cons,Reps] at r
  refine byc fun zG_=>?_
  obtain⟨x,xs,rfl,rx,rr⟩:=r
  simp only[Rep] at rx
  obtain⟨a,ws,rfl,q,t⟩:=rx
  obtain⟨its,rv,⟨o,eo,hc,n,hd⟩,hz⟩:=I.tuple (Same.seqT fh q)
  refine zG_ ?_
  cases v with
  |cons e tl=>
   rename_i u us
   have e:u=Value.ref a:=e
   subst e
   exact⟨⟨a,o,its.toArray,n,rfl,eo,hc,hd,by simpa using VV t rv,ne k mem_cons_self⟩,ME I fh rr tl fun k hk=>ne k (mem_cons_of_mem _ hk)⟩
theorem Reps.pick{K:Frag}{ds:List D}{vs:List V}(r:Reps K F ds vs):∀(q:List Nat),(∀i∈q,i<ds.length)→Reps K F (q.map fun i=>ds.getD i .non) (q.map fun i=>vs.getD i .non):=by
 intro l_
 induction l_ with
 |nil=>
  rintro _
  exact Reps.nil
 |cons i q ih_=>
  rintro h
  have hi:=h i mem_cons_self
  obtain⟨v,e1,e2⟩:=r.get (i:=i) (getElem?_eq_getElem hi)
  have z1:ds.getD i .non=ds[i]:=by simp[hi]
  have z2:vs.getD i .non=v:=by simp[e1]
  rw[map_cons,map_cons,z1,z2]
  exact Reps.cons e2 (ih_ fun j hj=>h j (mem_cons_of_mem _ hj))
theorem XR{vs:List V}{us:List Value}(r:Vals vs us):∀(q:List Nat),(∀i∈q,i<vs.length)→Vals (q.map fun i=>vs.getD i .non) (q.map fun i=>us.getD i .none):=by
 intro l_
 induction l_ with
 |nil=>
  rintro _
  exact .nil
 |cons i q ih_=>
  rintro h
  have hi:=h i mem_cons_self
  obtain⟨u,e1,e2⟩:=r.get (i:=i) (getElem?_eq_getElem hi)
  have z1:vs.getD i .non=vs[i]:=by simp[hi]
  have z2:us.getD i .none=u:=by simp[e1]
  rw[map_cons,map_cons,z1,z2]
  exact .cons e2 (ih_ fun j hj=>h j (mem_cons_of_mem _ hj))
end
open PySem.W
section
variable{X:Cx}{pins:List (Addr×Obj)}{σ:St}{F H:Hp}{τ:DS}{s:Shared}{Q:VK}{E:Value→Shared→Prop}
theorem Inv.relist(I:Inv X pins σ H s){a:Addr}{xs ys:List V}{us ws:List Value}{n:Nat}{g:Array Value→Array Value}(e:H a=some (.lst xs))(o:s.heap.get? a=some (seqObj "list" us.toArray n))(hg:g us.toArray=ws.toArray)(r:Vals ys ws)(hz:ys.length≤sizeLine) :
  Inv X pins σ (upd H a (.lst ys)) { s with heap:=s.heap.update a (Obj.mapSeq g) }:=by
 have h1:=get?_update_seq o g
 rw[hg] at h1
 exact I.write (t':=s.toks) (by rw[e];exact trivial) (.inl rfl) (fun b u hb q=>by rw[Heap.get?_update_ne _ _ _ _ hb];exact q) ⟨_,h1⟩ ⟨hz,ws,_,r,h1⟩
theorem Inv.settle(I:Inv X (pins++[p]) σ H s){D:Addr}{n:Nat}{ys:List V}{ws:List Value}{g:Array Value→Array Value}(hp:p=(D,seqObj "list" #[] n))(hg:g #[]=ws.toArray)(r:Vals ys ws)(hz:ys.length≤sizeLine)
  (h0:X.s₀.heap.objs.size≤D) (hc:∀x c,X.env.cells.lookup x=some c→c≠D) (hn:∀q∈X.pn++pins,q.1≠D):Inv X pins σ (upd H D (.lst ys)) { s with heap:=s.heap.update D (Obj.mapSeq g) }:=by
 subst hp
 refine byc fun zG_=>?_
 obtain⟨e,nD,neL,nf,_⟩:=I.pin (D,seqObj "list" #[] n) (by simp)
 refine zG_ ?_
 have J:Inv X pins σ H s:=I.pins_of fun q hq=>I.pin q (mem_append_right _ (mem_append_left _ hq))
 have h1:=get?_update_seq e g
 rw[hg] at h1
 have kp:∀b u,b≠D→s.heap.get? b=some u→(s.heap.update D (Obj.mapSeq g)).get? b=some u:=fun b u hb q=>by rw[Heap.get?_update_ne _ _ _ _ hb];exact q
 refine J.step (g':=s.gens) (d':=s.drawn) (t':=s.toks) (ch:=[D]) (fun b hb=>?_) (fun b o _ _ hb q _=>kp b o (by simpa using hb) q) (fun b o _ _ hb q _=>⟨o.slots,kp b o (by simpa using hb) q⟩) (fun b o hb _ q=>by rw[zm (by simpa using hb)];exact q)
  (fun b o hb q=>⟨o,kp b o (by simpa using hb) q⟩) (fun b xs q=>by rw[zm (zA q nD)];exact q) (fun b o u q=>by rw[zm (zA q nD)];exact q) (fun b ps q=>⟨#[],by rw[zm (zA q nD),q];simp⟩) (fun m hm=>?_) ?_ J.bare
 ·have:b=D:=by simpa using hb
  subst this
  exact⟨.inr h0,neL,hc,hn⟩
 ·refine byc fun zG_=>?_
  obtain⟨o,es,ep,ho,r'⟩:=hm
  refine zG_ ?_
  exact⟨o,es,ep,kp _ o (Ne.symm neL) ho,r'⟩
 ·intro b u q
  by_cases hb:b=D
  ·subst hb
   rw[zo] at q;cases q
   exact⟨hz,ws,_,r,h1⟩
  ·rw[zm hb] at q
   refine(J.hok b u q).stay (fun c v hc' q'=>kp c v ?_ q') (fun c q'=>by rw[zm (zA q' nD)];exact q') fun c xs q'=>by rw[zm (zA q' nD)];exact q'
   rcases hc' with z|z
   ·rw[z];exact hb
   ·exact zA z nD
theorem Qe:Vals ([]:List V) []:=.nil
theorem Jd{D kS:Addr}{e1:Nat}{st:SortSt}{kvs ovs:List V}{out:List Value}{P:PySem.Fin→Shared→Prop}{A:Around}(I:Inv X (pins++[(D,seqObj "list" #[] e1)]) σ H s)(hk:H kS=some (.lst kvs))(hout:(arrOf st).map (·.2)=List.toArray out)(hf:failedOf st=none)(hz:out.length<64)
  (r:Vals ovs out) (hkz:kvs.length≤sizeLine) (h0:X.s₀.heap.objs.size≤D) (hc:∀x c,X.env.cells.lookup x=some c→c≠D) (hn:∀q∈X.pn++pins,q.1≠D)
  (h:∀s',Inv X pins σ (upd (upd H kS (.lst [])) D (.lst ovs)) s'→P (.done (.ret .none)) s'):wpAny (model X.prog X.w) A (ksk_tail D false e1 (.ref kS) st) P E s:=by
 refine byc fun zG_=>?_
 obtain⟨z1,its,n,rk,ek⟩:=I.hok kS _ hk
 refine zG_ ?_
 have lk:its.length≤sizeLine:=by rw[← rk.length];exact hkz
 have I1:=Inv.relist (g:=fun _=>#[]) I hk ek (ws:=[]) rfl Qe (zero_le _)
 obtain⟨eD,nD,_⟩:=I1.pin (D,seqObj "list" #[] e1) (by simp)
 unfold ksk_tail
 try dsimp only
 refine wpAny_bind (listUpdate_at ek rfl ?_ (by rw[size_toArray];exact lk) (zero_le _))
 refine wpAny_bind (wpAny_letGo ?_)
 refine wpAny_bind (seqEpoch_at eD rfl ?_)
 refine wpAny_bind (listUpdate_at eD rfl ?_ (zero_le _) ?_)
 ·rw[hf]
  simp only[bne_self_eq_false,Bool.false_eq_true,if_false]
  exact wpAny_pure (h _ (Inv.settle I1 rfl (ws:=out) hout r (by rw[r.length];exact le_of_lt (wQ (by lia))) h0 hc hn))
 ·simp only[Bool.false_eq_true,if_false]
  rw[hout,size_toArray]
  exact le_trans (le_of_lt (wQ (by lia))) (Nat.le_succ _)
theorem Uq:∀{kz:List (List Int)} {ds:List D},kz.length=ds.length→ds.length<2→(wI (kz.zip ds)).map (·.2)=ds
 |[],[],_,_=>rfl
 |[a],[b],_,_=>rfl
 |[],_::_,h,_=>by simp at h
 |[_],[],h,_=>by simp at h
 |[_],_::_::_,h,_=>by simp at h
 |_::_::_,ds,h,h2=>by simp at h;lia
theorem zj2{Da kS:Addr}{e1:Nat}{kvs vs:List V}{us:List Value}{ds:List D}{kz:List (List Int)}{P:PySem.Fin→Shared→Prop}{A:Around}(I:Inv X (pins++[(Da,seqObj "list" #[] e1)]) σ H s)(hk:H kS=some (.lst kvs)){ks:List Value}{n:Nat}(ek:s.heap.get? kS=some (seqObj "list" ks.toArray n))(rk:Vals kvs ks)
  (fh:Same F H) (kr:Reps X.K F (kz.map fun k=>FD.D.tup (k.map FD.D.int)) kvs) (ne:∀k∈kz,k≠[]) (nd:kz.Nodup) (hl:kz.length=ds.length) (rs:Reps X.K F ds vs) (rv:Vals vs us) (hz:us.length<64)
  (h0:X.s₀.heap.objs.size≤Da) (hc:∀x c,X.env.cells.lookup x=some c→c≠Da) (hn:∀q∈X.pn++pins,q.1≠Da)
  (h:∀s' ovs,Inv X pins σ (upd (upd H kS (.lst [])) Da (.lst ovs)) s'→Reps X.K F ((wI (kz.zip ds)).map (·.2)) ovs→P (.done (.ret .none)) s'):wpAny (model X.prog X.w) A (ksk_end Da false us.toArray e1 (.ref kS) ks.toArray) P E s:=by
 have l1:ds.length=us.length:=by rw[rs.length,rv.length]
 have l2:ks.length=us.length:=by rw[← rk.length,← kr.length,length_map,hl,l1]
 have hkz:kvs.length≤sizeLine:=by rw[rk.length,l2];exact le_of_lt (wQ (by lia))
 unfold ksk_end
 try dsimp only
 simp only[Bool.false_eq_true,if_false]
 by_cases h2:us.length<2
 ·have h2':us.toArray.size<2:=by rw[size_toArray];exact h2
  rw[if_pos h2',if_pos h2']
  refine wpAny_bind (wpAny_pure ?_)
  rw[StateT.run_pure]
  refine wpAny_bind (wpAny_pure ?_)
  try dsimp only
  refine Jd (out:=us) (ovs:=vs) I hk ?_ rfl hz rv hkz h0 hc hn fun s' J=>h s' vs J ?_
  ·show((ks.toArray.zip us.toArray).map (·.2))=us.toArray
   apply Array.toList_inj.mp
   rw[Array.toList_map,ksk_zip]
   exact List.map_snd_zip (by simp[l2])
  ·rw[Uq hl (by lia)];exact rs
 ·have h2':¬ us.toArray.size<2:=by rw[size_toArray];exact h2
  rw[if_neg h2',if_neg h2']
  have kt:=ME I fh kr rk ne
  refine wpAny_bind (Q2 kt (by lia) ?_)
  refine wpAny_bind (GC (Q:=fun st s'=>wpAny (model X.prog X.w) A (ksk_tail Da false e1 (.ref kS) st) P E s') kt l2 (by lia) hz nd fun p st h3 h4 h5 h6=>?_)
  have hp:∀i∈p.toList,i<us.length:=fun i hi=>by simpa using h3.mem_iff.mp hi
  refine Jd (ovs:=p.toList.map fun i=>vs.getD i .non) I hk h5 h6 ?_ (XR rv _ fun i hi=>by rw[rv.length];exact hp i hi) hkz h0 hc hn fun s' J=>h s' _ J ?_
  ·rw[length_map,h3.length_eq,length_range];exact hz
  ·rw[← Gv (q:=p) (d:=.non) hl nd (by rw[l1];exact h3) (by rw[l1];exact h4)]
   exact Reps.pick rs _ fun i hi=>by rw[l1];exact hp i hi
end
open PySem.W
section
variable{X:Cx}{pins:List (Addr×Obj)}{σ:St}{F H:Hp}{τ:DS}{s:Shared}{Q:VK}{E:Value→Shared→Prop}
theorem Up{l f:Addr}{ds:List D}{vs:List V}{kz:List (List Int)}(I:Inv X pins σ H s)(fh:Same F H)(hl:F l=some (.lst vs))(rs:Reps X.K F ds vs)(h64:ds.length<64)(hk:kz.length=ds.length)(nd:kz.Nodup)(ne:∀k∈kz,k≠[])
  (key:∀(i:Nat) (d:D) (k:List Int),ds[i]?=some d→kz[i]?=some k→∀(pins':List (Addr×Obj)) (s':Shared) (F' H':Hp) (v:V) (u:Value) (Q':VK),Inv X pins' σ H' s'→(∀p∈pins,p∈pins')→Ext F H F' H'→Rep X.K F' d v→RelV v u →
   (∀kv F'' H'',Ext F' H' F'' H''→Rep X.K F'' (.tup (k.map D.int)) kv→Q' kv H'')→wpAny (model X.prog X.w) X.A.in1.in1 (call (.ref f) [u]) (EP X pins' σ Q') (fun _ _=>False) s')
  (hQ:∀Da F' H',Ext F H F' H'→Rep X.K F' (.lst ((wI (kz.zip ds)).map (·.2))) (.ref Da)→Q (.ref Da) H') :
  wpAny (model X.prog X.w) X.A (call (.builtin "sorted") [.ref l] [(Str.ofString "key", .ref f)]) (EP X pins σ Q) E s:=by
 refine byc fun zG_=>?_
 obtain⟨us,rv,⟨o,nn,eo,hc,hd0,hd⟩,hz⟩:=I.list (SqL.of (K:=X.K) (fh _ _ hl))
 refine zG_ ?_
 have hil:s.heap.IsList l us.toArray:=⟨o,eo,hc,nn,hd⟩
 have l1:ds.length=us.length:=by rw[rs.length,rv.length]
 have sz:us.length≤sizeLine:=le_of_lt (wQ (by lia))
 refine call_function_entry_kw kind_sorted plain_sorted entry_sorted (ksk_s1 _ _) ?_
 unfold Builtin.«sorted»
 refine wpAny_bind (m:=checkCount "sorted" 1 1 _) (wpAny_pure ?_)
 refine wpAny_bind (collect_list hil ?_ sz)
 refine wpAny_bind (wpAny_newList ?_ sz)
 have keep1:∀b u,s.heap.get? b=some u→((s.heap.push (seqObj "list" #[] 0)).update s.heap.objs.size (Obj.mapSeq (· ++ us.toArray))).get? b=some u:=fun b u q=>by
  have hb:b<s.heap.objs.size:=Heap.lt_size q
  rw[Heap.get?_update_ne _ _ _ _ (ne_of_lt hb),Heap.get?_push_ne _ _ _ (ne_of_lt hb)]
  exact q
 have size1:s.heap.objs.size≤((s.heap.push (seqObj "list" #[] 0)).update s.heap.objs.size (Obj.mapSeq (· ++ us.toArray))).objs.size:=by rw[Heap.size_update,size_push'];lia
 generalize hh1:(s.heap.push (seqObj "list" #[] 0)).update s.heap.objs.size (Obj.mapSeq (· ++ us.toArray))=h1 at keep1 size1
 have hD:(h1.push (seqObj "list" us.toArray 0)).get? h1.objs.size=some (seqObj "list" us.toArray 0):=Heap.get?_push_size _ rfl
 have keep2:∀b u,s.heap.get? b=some u→(h1.push (seqObj "list" us.toArray 0)).get? b=some u:=fun b u q=>get?_push_of_some _ (keep1 b u q)
 generalize hDa:h1.objs.size=Da at hD size1
 have neD:∀b u,s.heap.get? b=some u→b≠Da:=fun b u q=>ne_of_lt (lt_of_lt_of_le (Heap.lt_size q) size1)
 generalize hh2:h1.push (seqObj "list" us.toArray 0)=h2 at hD keep2
 have ltD:Da<h2.objs.size:=Heap.lt_size hD
 refine wpAny_bind (wpAny_holding (wpAny_call_entry_kw (rest:=[]) slot_list_sort ⟨_,hD,rfl⟩ entry_list_sort ?_ (ksk_l1 _ _)))
 show wpAny (model X.prog X.w) X.A.in1.in1 (Builtin.«list.sort» ⟨[.ref Da],[(Str.ofString "key", .ref f)]⟩) _ _ _
 rw[ksk_t1 f Da]
 unfold ksk_tree
 refine wpAny_bind (listItems_at hD rfl ?_)
 refine wpAny_bind (listUpdate_at hD rfl ?_ (by rw[size_toArray];exact sz) (zero_le _))
 have keep3:∀b u,s.heap.get? b=some u→(h2.update Da (Obj.mapSeq fun _=>(#[]:Array Value))).get? b=some u:=fun b u q=>by
  rw[Heap.get?_update_ne _ _ _ _ (neD b u q)];exact keep2 b u q
 obtain⟨e1,hD3⟩:∃e1,(h2.update Da (Obj.mapSeq fun _=>(#[]:Array Value))).get? Da=some (seqObj "list" #[] e1):=⟨_,get?_update_seq hD fun _=>#[]⟩
 generalize h2.update Da (Obj.mapSeq fun _=>(#[]:Array Value))=h3 at keep3 hD3
 refine wpAny_bind (seqEpoch_at hD3 rfl ?_)
 refine wpAny_bind (wpAny_newTuple ?_ (by show us.length≤sizeLine;exact sz))
 refine wpAny_bind (wpAny_newList ?_ (zero_le _))
 refine wpAny_holding ?_
 have hDa0:s.heap.objs.size≤Da:=size1
 have nH:H Da=none:=I.hok.fresh hDa0
 have neL:Da≠X.env.locals:=(ne_of_lt (lt_of_lt_of_le I.lt hDa0)).symm
 have pinD:∀q∈X.pn++pins,q.1≠Da:=fun q hq=>neD _ _ (I.pin q hq).1
 have cellD:∀x c,X.env.cells.lookup x=some c→c≠Da:=fun x c e=>by
  refine byc fun zG_=>?_
  obtain⟨v,oc,hoc,_⟩:=I.cell x c e
  refine zG_ ?_
  exact neD _ _ hoc
 have I1:Inv X pins σ H { s with heap:=h3.push (seqObj "tuple" us.toArray 0) }:=I.kept (t':=s.toks) fun b u q=>get?_push_of_some _ (keep3 b u q)
 have I2:Inv X (pins++[(Da,seqObj "list" #[] e1)]) σ H { s with heap:=h3.push (seqObj "tuple" us.toArray 0) }:=I1.pins_of fun q hq=>by
  rcases mem_append.mp hq with hq|hq
  ·exact I1.pin q (mem_append_right _ hq)
  ·have:q=(Da,seqObj "list" #[] e1):=by simpa using hq
   subst this
   exact⟨get?_push_of_some _ hD3,nH,neL,I.nofs hDa0,fun v z=>nomatch z⟩
 have szk:s.heap.objs.size≤(h3.push (seqObj "tuple" us.toArray 0)).objs.size:=le_of_lt (Nat.lt_of_le_of_lt hDa0 (Heap.lt_size (get?_push_of_some _ hD3)))
 have hkS:H (h3.push (seqObj "tuple" us.toArray 0)).objs.size=none:=I.hok.fresh szk
 have I3:=I2.laid (t':=s.toks) (a:=(h3.push (seqObj "tuple" us.toArray 0)).objs.size) (o:=.lst []) (h':=(h3.push (seqObj "tuple" us.toArray 0)).push (seqObj "list" #[] 0)) (fun b u q=>get?_push_of_some _ q) (le_refl _) ⟨zero_le _,[],0,.nil,Heap.get?_push_size _ rfl⟩
 generalize hkk:(h3.push (seqObj "tuple" us.toArray 0)).objs.size=kS at hkS I3
 have h0D:X.s₀.heap.objs.size≤Da:=le_trans I.sz hDa0
 unfold ksk_rest
 refine wpAny_bind (wpAny_rule ?_)
 first
  | rw[List.forIn_toArray]
  | (rw[← Array.forIn_toList];simp only[List.toList_toArray])
 refine wpAny_bind (ksk_fold (fun i s'=>∃F2 Hm kvs,Ext F H F2 Hm∧Hm kS=none∧Inv X (pins++[(Da,seqObj "list" #[] e1)]) σ (upd Hm kS (.lst kvs)) s'∧Reps X.K F2 ((kz.take i).map fun k=>D.tup (k.map D.int)) kvs) us 0 _
  ⟨F,H,[],Ext.refl fh,hkS,I3,by simpa using Reps.nil⟩ ?step ?done)
 case step=>
  rintro j x s' hx ⟨F2,Hm,kvs,x2,hm,I4,rk⟩
  simp only[zero_add] at rk ⊢
  have hj:j<us.length:=(List.getElem?_eq_some_iff.mp hx).1
  refine byc fun zG_=>?_
  obtain⟨d,hd⟩:∃d,ds[j]?=some d:=⟨_,getElem?_eq_getElem (by lia)⟩
  obtain⟨k,hkj⟩:∃k,kz[j]?=some k:=⟨_,getElem?_eq_getElem (by lia)⟩
  obtain⟨v,hv,rd⟩:=rs.get hd
  obtain⟨u,hu,ru⟩:=rv.get hv
  refine zG_ ?_
  rw[hx] at hu;cases hu
  have xo:Ext F2 Hm F2 (upd Hm kS (.lst kvs)):=Ext.open x2.fh hm
  refine wpAny_bind (wpAny_attempt (wpAny_mono (key j d k hd hkj _ s' F2 _ v x (fun kv H''=>∃F'',Ext F2 (upd Hm kS (.lst kvs)) F'' H''∧Rep X.K F'' (.tup (k.map D.int)) kv) I4 (fun p hp=>mem_append_left _ hp) (x2.trans xo) (rd.mono x2.ff) ru (fun kv F'' H'' y r=>⟨F'',y,r⟩)) (fun kval s'' hk''=>?_) fun _ _ z=>z.elim))
  refine byc fun zG_=>?_
  obtain⟨kv,H'',I5,rkv,F'',x5,rp⟩:=hk''
  have hkS5:H'' kS=some (.lst kvs):=x5.hh _ _ zo
  obtain⟨z1,its,n,rki,ek⟩:=I5.hok kS _ hkS5
  refine zG_ ?_
  have lk:kvs.length=j:=by
   rw[← rk.length,length_map,length_take];lia
  have li:its.length=j:=by rw[← rki.length];exact lk
  have I6:=Inv.relist (g:=(·.push kval)) I5 hkS5 ek (ws:=its++[kval]) (by simp) (rki.append (.cons rkv .nil)) (by rw[length_append,lk];exact le_of_lt (wQ (by simp;lia)))
  obtain⟨y1,y2⟩:=uc x2 hm x5
  try dsimp only
  refine wpAny_bind (listUpdate_at ek rfl ?_ (by rw[size_toArray,li];exact le_of_lt (wQ (by lia))) ?_)
  ·refine wpAny_pure ⟨rfl,F'',xu H'' kS,kvs++[kv],y1,we _ _,by rw[vY];exact I6,?_⟩
   have tk:kz.take (j+1)=kz.take j++[k]:=by
    rw[List.take_add_one,hkj];rfl
   rw[tk,map_append]
   exact(rk.mono x5.ff).append (Reps.cons rp Reps.nil)
  ·rw[Array.size_push,size_toArray,li];exact le_trans (le_of_lt (wQ (by lia))) (Nat.le_succ _)
 case done=>
  rintro s' ⟨F2,Hm,kvs,x2,hm,I4,rk⟩
  simp only[zero_add] at rk
  rw[List.take_of_length_le (by lia)] at rk
  refine byc fun zG_=>?_
  obtain⟨z1,ks,n,rki,ek⟩:=I4.hok kS _ zo
  refine zG_ ?_
  refine wpAny_bind (listItems_at ek rfl ?_)
  have xo:Ext F2 Hm F2 (upd Hm kS (.lst kvs)):=Ext.open x2.fh hm
  refine zj2 I4 zo ek rki xo.fh rk ne nd hk (rs.mono x2.ff) rv (by lia) h0D cellD pinD fun s5 ovs J ro=>?_
  refine⟨_,rfl,wpAny_pure ⟨_,rfl,.ref Da,_,J,rfl,hQ Da (upd F2 Da (.lst ovs)) _ ?_ ?_⟩⟩
  ·have hmD:Hm Da=none:=by
    obtain⟨_,nD,_⟩:=I4.pin (Da,seqObj "list" #[] e1) (by simp)
    by_cases z:Da=kS
    ·rw[z];exact hm
    ·rw[zm z] at nD;exact nD
   have eq1:upd (upd (upd Hm kS (.lst kvs)) kS (.lst [])) Da (.lst ovs)=upd (upd Hm kS (.lst [])) Da (.lst ovs):=by
    congr 1;funext b;unfold upd;split <;> rfl
   rw[eq1]
   have kD:(upd Hm kS (.lst [])) Da=none:=by
    obtain⟨_,nD,_⟩:=I4.pin (Da,seqObj "list" #[] e1) (by simp)
    by_cases z:Da=kS
    ·rw[z,zo] at nD;cases nD
    ·rw[zm z];exact hmD
   exact(x2.trans (Ext.open (o:=.lst []) x2.fh hm)).trans (Ext.new ((x2.trans (Ext.open (o:=.lst []) x2.fh hm)).fh) kD)
  ·have hF:F2 Da=none:=by
    obtain⟨_,nD,_⟩:=I4.pin (Da,seqObj "list" #[] e1) (by simp)
    exact zI xo.fh nD
   simp only[Rep]
   exact⟨Da,ovs,rfl,zo,ro.mono (yt hF)⟩
end
open PySem.W
noncomputable def _root_.L2.Cx.lam(X:Cx)(scope:Scope)(N:List Str)(s:Shared)(H:Hp)(qual:Str)(f:Addr)(cd:Value):Cx:=
 { prog:=X.prog,w:=X.w,K:=X.K,mg:=X.mg,base:=X.base,A:=X.A.in1.in1.deeper (envX qual scope s.heap.objs.size f cd (wt scope X.env)),N:=N,s₀:=s,H₀:=H,env:=envX qual scope s.heap.objs.size f cd (wt scope X.env),outer:=X.stack,
   stack:=envX qual scope s.heap.objs.size f cd (wt scope X.env)::X.stack,ex:=[],fn:=fun _=>false,calm:=true,pn:=[],xe:=fun _ _=>False }
section
variable{X:Cx}{scope:Scope}{N':List Str}{pins:List (Addr×Obj)}{σ σ':St}{F H:Hp}{τ:DS}{s:Shared}
theorem Ly{h1:Heap}{t:Nat}{qual p:Str}{f:Addr}{cd u:Value}{v:V}(S:xU X scope)(hd:X.A.handled=none)(I:Inv X pins σ H s)(hp:scope.names.lookup p=some .local)(hN:N'[0]?=some p)(rv:RelV v u)
  (hn:h1.Ns s.heap.objs.size fun x=>([(p,u)]:List (Str×Value)).reverse.lookup x) (hsb:∀b o,s.heap.get? b=some o→h1.get? b=some o) (hl:σ'.length=N'.length) (h0:σ'[0]?=some (some v))
  (hσ:∀(i:Nat) (v:V),i≠0→σ'[i]?=some (some v)→∃(x:Str) (j:Nat),N'[i]?=some x∧X.N[j]?=some x∧σ[j]?=some (some v)∧scope.names.lookup x=some .free) :
  Inv (X.lam scope N' s H qual f cd) [] σ' H { s with heap:=h1,toks:=t }:=by
 have hH:H s.heap.objs.size=none:=I.hok.fresh (le_refl _)
 have cl:∀{x c},(wt scope X.env).lookup x=some c→X.env.cells.lookup x=some c:=fun h=>ZO S I.ok h
 have kept:∀{c v},s.heap.IsCell c v→h1.IsCell c v:=fun ⟨o,e,d⟩=>⟨o,hsb _ o e,d⟩
 have noA:∀b:Addr,b∉(X.lam scope N' s H qual f cd).ex:=fun b z=>absurd (show b∈([]:List Addr) from z) (by simp)
 refine⟨⟨I.ok.mod,S.kind,rfl,rfl,le_refl _,fun x y c e1 e2=>I.ok.inj x y c (cl e1) (cl e2),fun x hx=>?_,fun x c hf _=>absurd hf (by simp[Cx.lam]),fun _=>hd,Around.frames_deeper (show X.A.in1.in1.frames=some X.stack from I.ok.frames),.inr ⟨rfl,rfl⟩,fun b z=>absurd z (noA b),I.bs,le_trans I.ok.bsz I.sz,fun b _ _=>noA b,fun b z=>absurd z (noA b),I.stack,I.stkFree⟩,
  I.os.symm ▸ rfl,I.bare,Un.kept hsb,⟨_,hn,fun i x v' e1 e2 e3=>?_⟩,fun x c e=>?_,hH,fun x c e=>I.freeC x c (cl e),fun p hp=>absurd (show p∈([]:List (Addr×Obj)) from hp) (by simp),I.hok.kept hsb,hl⟩
 ·have hx:scope.names.lookup x=some .cell∨scope.names.lookup x=some .free:=hx
  rcases hx with z|z
  ·exact absurd rfl (S.nocell _ (PySem.mem_of_lookup z))
  ·exact u0 (.inl ⟨_,PySem.mem_of_lookup z,rfl,rfl⟩)
 ·have e1:N'[i]?=some x:=e1
  by_cases hi:i=0
  ·subst hi
   rw[hN] at e1;cases e1
   rw[h0] at e2;cases e2
   exact⟨u,rv,.inl ⟨hp,by simp[List.lookup]⟩⟩
  ·refine byc fun zG_=>?_
   obtain⟨x',j,e4,e5,e6,e9⟩:=hσ i v' hi e2
   refine zG_ ?_
   have hy:=PySem.mem_of_lookup e9
   rw[e1] at e4;cases e4
   have kd:=S.free _ hy rfl
   refine byc fun zG_=>?_
   obtain⟨m,hm,hl⟩:=I.loc
   obtain⟨u',ru,lk⟩:=hl j x v' e5 e6 (kd.elim (fun z=>.inr (.inl z)) fun z=>.inr (.inr z))
   refine zG_ ?_
   refine⟨u',ru,?_⟩
   rcases lk with ⟨z,_⟩|⟨z,c,hc,hcell⟩
   ·rcases kd with k|k <;> rw[k] at z <;> cases z
   ·obtain⟨c',hc'⟩:=u0 (env:=X.env) (names:=scope.names) (cs:=[]) (x:=x) (.inl ⟨_,hy,rfl,rfl⟩)
    have:=cl hc'
    rw[hc] at this;cases this
    exact .inr ⟨.inr e9,c,hc',kept hcell⟩
 ·obtain⟨v,z⟩:=I.cell x c (cl e)
  exact⟨v,kept z⟩
noncomputable def Q1(idx:List Nat)(fb:FE)(τ:DS)(d:D):Rs D:=fb ((wP 1 idx τ).set 0 (some (.val d)))
theorem MD{f c':Addr}{qual p:Str}{params:Arguments}{body:Expr}{pm ctv u:Value}{v:V}{d dk:D}{fr:List Str}{idx:List Nat}{fb:FE}{Q:VK}(S:xU X scope)(hr:Room 3 X.A)(hfr:FreeOk scope X.N fr idx)(hp:scope.names.lookup p=some .local)
  (hco:scope.isCoroutine=false) (hgen:scope.isGenerator=false) (hbind:∀(pm cd ct:Value) (cl:List (Str×Addr)) (u:Value),bindArgs (kla_fn "<lambda>" qual params body scope cl pm cd ct) ⟨[u],[]⟩=pure [(p,u)])
  (hb:∀s H f cd,PDE (X.lam scope (p::fr) s H qual f cd) body fb)
  (I:Inv X pins σ H s) (R:RV X.K F τ σ H) (ho:s.heap.get? f=some (kla_obj "<lambda>" qual params body scope (wt scope X.env) pm c' ctv)) (hc:H c'=some (.ext (Xo c' qual))) (rd:Rep X.K F d v) (ru:RelV v u) (hk:Q1 idx fb τ d=.ok dk)
  (hQ:∀kv F1 H1,Ext F H F1 H1→Rep X.K F1 dk kv→Q kv H1):wpAny (model X.prog X.w) X.A.in1.in1 (call (.ref f) [u]) (EP X pins σ Q) (fun _ _=>False) s:=by
 have hcd:s.heap.CodeRec (.ref c') qual:=(I.hok c' _ hc).1
 refine wpAny_call (kla_callFunE (args:=⟨[u],[]⟩) (hr.in1.in1).depth ho rfl hco hgen rfl hcd ?_)
 rw[hbind]
 refine wpAny_pure (wpAny_newFunctionEnv S.nocell (fun y hy=>?_) (fun h1 hns hsb=>⟨(I.mod.nolimit.keeps I.bk).fresh _ hsb,?_⟩) S.kind)
 ·have:y=(p,u):=by simpa using hy
  subst this;exact hp
 have keep3:∀b o,s.heap.get? b=some o→h1.get? b=some o:=fun b o e=>hsb.extBut b o (ne_of_lt (Heap.lt_size e)) (get?_push_of_some _ e)
 show codeAny _ _ (.expr body (envX qual scope s.heap.objs.size f (.ref c') (wt scope X.env))) _ _
 have hlen:(w5 1 idx σ).length=(p::fr).length:=by simp[w5,hfr.len]
 have hl0:0<(w5 1 idx σ).length:=by rw[hlen];simp
 have J:Inv (X.lam scope (p::fr) s H qual f (.ref c')) [] ((w5 1 idx σ).set 0 (some v)) H { s with heap:=h1,toks:=s.toks+([(p,u)]:List (Str×Value)).length }:=
  Ly S hr.hd I hp rfl ru hns keep3 (by rw[length_set];exact hlen) (by rw[getElem?_set_self hl0]) fun i v' hi e=>by
   rw[getElem?_set_ne (Ne.symm hi)] at e
   exact jR (tn:=[p]) hfr σ i v' e
 refine kla_codeExpr (wpAny_mono (hb s H f (.ref c') [] _ _ H (fun kv H1=>∃F1,Ext F H F1 H1∧Rep X.K F1 dk kv) J ⟨F,(wP 1 idx τ).set 0 (some (.val d)),(WB 1 idx R).set rd,?_⟩) (fun w s5 h5=>?_) fun _ _ z=>z.elim)
 ·have hk:fb ((wP 1 idx τ).set 0 (some (.val d)))=.ok dk:=hk
  rw[hk]
  exact fun kv F1 H1 x r=>⟨F1,x,r⟩
 ·refine byc fun zG_=>?_
  obtain⟨kv,H5,I5,r5,F5,x5,rk⟩:=h5
  refine zG_ ?_
  exact⟨kv,H5,I.call' (ch:=[]) I5.os I5.base I5.hok I5.bare (fun b z=>absurd z (by simp)),r5,hQ kv F5 H5 x5 rk⟩
end
open PySem.W
noncomputable def TabsU:Prop:=∀r∈Tabs.rows,∀r'∈Tabs.rows,r.1=r'.1→r=r'
theorem Y3{α β:Type}{f:α→β}:∀{l:List α},(l.map f).Nodup→∀r∈l,∀r'∈l,f r=f r'→r=r'
 |[],_,_,h,_,_,_=>by cases h
 |a::l,nd,r,h,r',h',e=>by
  rw[map_cons,nodup_cons] at nd
  rcases mem_cons.mp h with z|z
  ·rcases mem_cons.mp h' with z' | z'
   ·rw[z,z']
   ·rw[z] at e
    exact absurd (mem_map.mpr ⟨r',z',e.symm⟩) nd.1
  ·rcases mem_cons.mp h' with z' | z'
   ·rw[z'] at e
    exact absurd (mem_map.mpr ⟨r,z,e⟩) nd.1
   ·exact Y3 nd.2 r z r' z' e
theorem TabsU.of(h:(Tabs.rows.map (·.1)).Nodup):TabsU:=Y3 h
section
variable{X:Cx}{scope:Scope}{pins:List (Addr×Obj)}{σ:St}{F H:Hp}{τ:DS}{s:Shared}
theorem MC{params:Arguments}{body:Expr}{lpos:Pos}{P c:Addr}{E:Value→Shared→Prop}{Q:Value→Shared→Prop}(tu:TabsU)(S:xU X scope)(bm:BM X.mg X.base)(hcode:X.env.code=.ref c)(hcd:codeHdIn X.K c P=true)(hrow:(P,lpos.line,lpos.col,X.env.qual ++ "<lambda>")∈Tabs.rows)
  (hdef:defaultsOf params X.env=([],[])) (I:Inv X pins σ H s) (fh:Same F H) (tt:TbT F H)
  (h:∀(f c':Addr) (pm ctv:Value) (H':Hp) (s':Shared),Inv X (pins++[(f,kla_obj "<lambda>" (X.env.qual ++ "<lambda>") params body scope (wt scope X.env) pm c' ctv)]) σ H' s'→Ext F H F H'→H' c'=some (.ext (Xo c' (X.env.qual ++ "<lambda>")))→Q (.ref f) s') :
  wpAny (model X.prog X.w) X.A (eval (.Lambda params body scope lpos) X.env) Q E s:=by
 refine byc fun zG_=>?_
 obtain⟨bma,ob,b1,b2,b3,b4,b5,b6⟩:=bm
 obtain⟨b3,bH⟩:=I.bs _ _ b3
 have hgs:s.heap.Ns mainGlobals X.mg:=I.mod.glob.keeps I.bk
 have C:CodeHd s.heap c P:=codeHd_of_K (I.mod.kin.keeps I.bk) hcd
 have hcl:closureFor scope X.env=pure (wt scope X.env):=vX fun y hy e=>by
  obtain⟨c,hc⟩:=I.ok.has _ (S.free y hy e)
  rw[hc];rfl
 have hbG:bma≠mainGlobals:=fun q=>by
  obtain⟨o,es,ep,e,hd,_⟩:=hgs
  rw[← q,b3] at e;cases e;rw[b6] at hd;cases hd
 obtain⟨tF,tt0⟩:=tt.1 _ hrow
 have hPs:∃ps,H P=some (.tbl ps):=by
  rcases tt0 with e|⟨c',e,_⟩
  ·exact⟨_,e⟩
  ·exact⟨_,e⟩
 obtain⟨ps0,hP0⟩:=hPs
 refine zG_ ?_
 have hbP:bma≠P:=fun q=>by rw[q,hP0] at bH;cases bH
 have B:s.heap.BuiltinsAt X.mg P:=⟨bma,ob,b1,b2,hbG,hbP,b3,b4,b5,b6⟩
 refine kla_eval hdef ?_
 rcases tt0 with e|⟨c',e,ec⟩
 ·-- the first time
  have e:H P=some (.tbl #[]):=e
  have hP:s.heap.get? P=some (tabObj #[]):=I.hok P _ e
  have hgP:mainGlobals≠P:=fun q=>by
   refine byc fun zG_=>?_
   obtain⟨o,es,ep,e',hd,_⟩:=hgs
   refine zG_ ?_
   rw[q,hP] at e';cases e';cases hd
  refine kla_makeFunction (mg:=X.mg) hcl I.ok.glob hgs hcode C hP trivial rfl hgP B fun c' ctv h' tk hx hge hlt hrec htb=>?_
  have hc0:H c'=none:=I.hok.fresh hge
  have hPc:P≠c':=fun z=>by rw[z,hc0] at e;cases e
  have hsz:s.heap.objs.size≤h'.objs.size:=le_trans hge (le_of_lt hlt)
  have htb:h'.get? P=some (tabObj #[rawInt lpos.line,rawInt lpos.col,.ref c']):=by simpa using htb
  let H':Hp:=upd (upd H P (.tbl #[rawInt lpos.line,rawInt lpos.col,.ref c'])) c' (.ext (Xo c' (X.env.qual ++ "<lambda>")))
  have hne:∀b,b≠P→b≠c'→H' b=H b:=fun b z1 z2=>by show upd (upd H P _) c' _ b=H b;rw[zm z2,zm z1]
  have hP':H' P=some (.tbl #[rawInt lpos.line,rawInt lpos.col,.ref c']):=by show upd (upd H P _) c' _ P=_;rw[zm hPc,zo]
  have hc':H' c'=some (.ext (Xo c' (X.env.qual ++ "<lambda>"))):=zo
  let fo:Obj:=kla_obj "<lambda>" (X.env.qual ++ "<lambda>") params body scope (wt scope X.env) ((X.mg "__name__").getD .none) c' ctv
  have kp:∀b o,b≠P→s.heap.get? b=some o→(h'.push fo).get? b=some o:=fun b o z q=>get?_push_of_some _ (hx b o z q)
  have nc:∀b o,s.heap.get? b=some o→b≠c':=fun b o q=>ne_of_lt (lt_of_lt_of_le (Heap.lt_size q) hge)
  have nP:∀b,H b=none→b≠P:=fun b q z=>by rw[z,e] at q;cases q
  have J:Inv X pins σ H' { s with heap:=h'.push fo,toks:=tk }:=by
   refine I.un (t':=tk) ⟨fun b o q n _ _=>kp b o (nP b n) q,fun b o q n _ _=>⟨o.slots,kp b o (nP b n) q⟩,fun b o q n _=>by rw[hne b (nP b n) (nc b o q)];exact n,fun b o q _=>?_,fun b xs q=>?_,fun b o u q=>?_,fun b ps q=>?_⟩ fun b u q=>?_
   ·by_cases z:b=P
    ·subst z;exact⟨_,get?_push_of_some _ htb⟩
    ·exact⟨o,kp b o z q⟩
   ·rw[hne b (fun z=>by rw[z,e] at q;cases q) (fun z=>by rw[z,hc0] at q;cases q)];exact q
   ·rw[hne b (fun z=>by rw[z,e] at q;cases q) (fun z=>by rw[z,hc0] at q;cases q)];exact q
   ·by_cases z:b=P
    ·subst z
     rw[e] at q;cases q
     exact⟨#[rawInt lpos.line,rawInt lpos.col,.ref c'],by rw[hP'];simp⟩
    ·exact⟨#[],by rw[hne b z (fun z=>by rw[z,hc0] at q;cases q),q];simp⟩
   ·by_cases z2:b=c'
    ·subst z2
     rw[hc'] at q;cases q
     have hr2:(h'.push fo).CodeRec (.ref b) (X.env.qual ++ "<lambda>"):=by
      refine byc fun zG_=>?_
      obtain⟨c2,oc,vs,t,g1,g2,g3,g4⟩:=hrec
      refine zG_ ?_
      exact⟨c2,oc,vs,t,g1,get?_push_of_some _ g2,g3,g4⟩
     refine⟨hr2,?_,fun h1 h2 g k=>?_⟩
     ·refine byc fun zG_=>?_
      obtain⟨c2,oc,vs,t,g1,g2,g3,g4⟩:=hr2
      refine zG_ ?_
      cases g1
      exact⟨oc,g2⟩
     ·refine byc fun zG_=>?_
      obtain⟨c2,oc,vs,t,g1,g2,g3,g4⟩:=g
      refine zG_ ?_
      cases g1
      exact⟨_,oc,vs,t,rfl,k _ g2,g3,g4⟩
    ·by_cases z:b=P
     ·subst z
      rw[hP'] at q;cases q
      exact get?_push_of_some _ htb
     ·rw[hne b z z2] at q
      refine(I.hok b u q).stay (fun d v hd qd=>kp d v ?_ qd) (fun d qd=>?_) fun d xs qd=>?_
      ·rcases hd with y|y
       ·rw[y];exact z
       ·exact fun y'=>by rw[y',e] at y;cases y
      ·rw[hne d (fun y=>by rw[y,e] at qd;cases qd) (fun y=>by rw[y,hc0] at qd;cases qd)];exact qd
      ·rw[hne d (fun y=>by rw[y,e] at qd;cases qd) (fun y=>by rw[y,hc0] at qd;cases qd)];exact qd
  have hfz:s.heap.objs.size≤h'.objs.size:=hsz
  have nf:H' h'.objs.size=none:=by
   rw[hne _ (ne_of_gt (lt_of_lt_of_le (Heap.lt_size hP) hfz)) (ne_of_gt hlt)]
   exact I.hok.fresh hfz
  refine h h'.objs.size c' ((X.mg "__name__").getD .none) ctv H' _ (J.pins_of fun q hq=>?_) ⟨Same.refl F,fun b o q=>?_,fun b o q=>?_,fun _ _ q=>.inl q,fun t=>⟨fun r hr=>?_,fun d b q=>?_⟩⟩ hc'
  ·rcases mem_append.mp hq with hq|hq
   ·exact J.pin q (mem_append_right _ hq)
   ·have:q=(h'.objs.size,fo):=by simpa using hq
    subst this
    exact⟨Heap.get?_push_size _ rfl,nf,(ne_of_lt (lt_of_lt_of_le I.lt hfz)).symm,I.nofs hfz,fun v z=>nomatch z⟩
  ·by_cases z:b=P
   ·subst z;rw[e] at q;cases q;exact⟨_,hP'⟩
   ·exact .of (by rw[hne b z (fun z=>by rw[z,hc0] at q;cases q)];exact q)
  ·have q':=fh b o q
   rw[hne b (fun z=>by rw[z,show F P=none from tF] at q;cases q) (fun z=>by rw[z,hc0] at q';cases q')]
   exact q'
  ·by_cases z:r.1=P
   ·obtain rfl:=tu r hr _ hrow z
    exact⟨tF,.inr ⟨c',hP',hc'⟩⟩
   ·obtain⟨t1,t2⟩:=t.1 r hr
    refine⟨t1,?_⟩
    rcases t2 with q|⟨c2,q,q2⟩
    ·exact .inl (by rw[hne _ z (fun z=>by rw[z,hc0] at q;cases q)];exact q)
    ·exact .inr ⟨c2,by rw[hne _ z (fun z=>by rw[z,hc0] at q;cases q)];exact q,by rw[hne _ (fun z=>by rw[z,e] at q2;cases q2) (fun z=>by rw[z,hc0] at q2;cases q2)];exact q2⟩
  ·have q:H d=some (.own b):=by
    by_cases z2:d=c'
    ·rw[z2,hc'] at q;cases q
    ·by_cases z:d=P
     ·rw[z,hP'] at q;cases q
     ·rw[hne d z z2] at q;exact q
   refine byc fun zG_=>?_
   obtain⟨C,dx,vs,q2⟩:=t.2 d b q
   refine zG_ ?_
   exact⟨C,dx,vs,by rw[hne b (fun z=>by rw[z,e] at q2;cases q2) (fun z=>by rw[z,hc0] at q2;cases q2)];exact q2⟩
 ·-- again
  have e:H P=some (.tbl #[rawInt lpos.line,rawInt lpos.col,.ref c']):=e
  have hP:s.heap.get? P=some (tabObj #[rawInt lpos.line,rawInt lpos.col,.ref c']):=I.hok P _ e
  refine kla_makeFunctionHit (mg:=X.mg) (cv:=.ref c') hcl I.ok.glob hgs hcode C hP trivial (codeAmong_snoc (c:=.ref c') [] trivial rfl) B fun ctv h' tk hk hsz=>?_
  let fo:Obj:=kla_obj "<lambda>" (X.env.qual ++ "<lambda>") params body scope (wt scope X.env) ((X.mg "__name__").getD .none) c' ctv
  have J:Inv X pins σ H { s with heap:=h'.push fo,toks:=tk }:=I.kept (t':=tk) fun b u q=>get?_push_of_some _ (hk b u q)
  refine h h'.objs.size c' ((X.mg "__name__").getD .none) ctv H _ (J.pins_of fun q hq=>?_) (Ext.refl fh) ec
  rcases mem_append.mp hq with hq|hq
  ·exact J.pin q (mem_append_right _ hq)
  ·have:q=(h'.objs.size,fo):=by simpa using hq
   subst this
   exact⟨Heap.get?_push_size _ rfl,I.hok.fresh hsz,(ne_of_lt (lt_of_lt_of_le I.lt hsz)).symm,I.nofs hsz,fun v z=>nomatch z⟩
noncomputable def vm(idx:List Nat)(fb:FE)(τ:DS):List D→Rs (List D)
 |[]=>.ok []
 |d::r=>match Q1 idx fb τ d with
  |.ok k=>match vm idx fb τ r with
   |.ok ks=>.ok (k::ks)
   |_=>.no
  |_=>.no
theorem ZZ{idx:List Nat}{fb:FE}{τ:DS}:∀{ds ks:List D},vm idx fb τ ds=.ok ks→ks.length=ds.length∧∀(i:Nat) (d k:D),ds[i]?=some d→ks[i]?=some k→Q1 idx fb τ d=.ok k
 |[],ks,h=>by cases h;exact⟨rfl,fun i d k e=>by simp at e⟩
 |d::r,ks,h=>by
  unfold vm at h
  cases q:Q1 idx fb τ d with
  |no=>rw[q] at h;cases h
  |ex c=>rw[q] at h;cases h
  |ok k=>
   rw[q] at h
   simp only at h
   cases q2:vm idx fb τ r with
   |no=>rw[q2] at h;cases h
   |ex c=>rw[q2] at h;cases h
   |ok ks'=>
    rw[q2] at h;cases h
    obtain⟨l,g⟩:=ZZ q2
    refine⟨by simp[l],fun i d' k' e1 e2=>?_⟩
    cases i with
    |zero=>simp at e1 e2;subst e1;subst e2;exact q
    |succ i=>exact g i d' k' (by simpa using e1) (by simpa using e2)
noncomputable def Zx(ks ds:List D):Rs D:=match Z0 ks with
 |some kz=>if ds.length<64∧kz.Nodup∧(∀k∈kz,k≠[]) then .ok (.lst ((wI (kz.zip ds)).map (·.2))) else .no
 |none=>.no
noncomputable def Xk(idx:List Nat)(fe fb:FE):FE:=fun τ=>(fe τ).bind fun d=>match d with
 |.lst ds=>match vm idx fb τ ds with
  |.ok ks=>Zx ks ds
  |_=>.no
 |_=>.no
theorem Qm{X:Cx}{ks ds:List D}{P:D→Prop}(h:Ok X (Zx ks ds) P):∃kz:List (List Int),ks=kz.map (fun k=>D.tup (k.map D.int))∧ds.length<64∧kz.Nodup∧(∀k∈kz,k≠[])∧P (.lst ((wI (kz.zip ds)).map (·.2))):=by
 unfold Zx at h
 cases q:Z0 ks with
 |none=>rw[q] at h;exact h.elim
 |some kz=>
  rw[q] at h
  simp only at h
  by_cases z:ds.length<64∧kz.Nodup∧(∀k∈kz,k≠[])
  ·rw[if_pos z] at h
   exact⟨kz,VT q,z.1,z.2.1,z.2.2,h⟩
  ·rw[if_neg z] at h;exact h.elim
theorem QD{x p:Str}{pp pos lpos kp:Pos}{e body:Expr}{params:Arguments}{fr:List Str}{idx:List Nat}{fe fb:FE}{P c:Addr}(hg:Gl X x)(hm:X.mg x=none)(hv:bootBuiltins x=some (.builtin "sorted"))(he:PDE X e fe)
  (hr:Room 3 X.A) (tu:TabsU) (bm:BM X.mg X.base) (hcode:X.env.code=.ref c) (hcd:codeHdIn X.K c P=true) (hrow:(P,lpos.line,lpos.col,X.env.qual ++ "<lambda>")∈Tabs.rows)
  (hsc:uA X.env.scope scope=true) (hfr:FreeOk scope X.N fr idx) (hp:scope.names.lookup p=some .local) (hco:scope.isCoroutine=false) (hgen:scope.isGenerator=false)
  (hbind:∀(pm cd ct:Value) (cl:List (Str×Addr)) (u:Value),bindArgs (kla_fn "<lambda>" (X.env.qual ++ "<lambda>") params body scope cl pm cd ct) ⟨[u],[]⟩=pure [(p,u)])
  (hb:∀s H f cd,PDE (X.lam scope (p::fr) s H (X.env.qual ++ "<lambda>") f cd) body fb) (hdef:defaultsOf params X.env=([],[]):=by rfl)
  (hn:x ≠ "__name__" := by decide) (hdb:(x==("__debug__" : Str))=false:=by decide) (h1:starEach [e] X.env=(false,eval e X.env)::starEach [] X.env:=by rfl) :
  PDE X (.Call (.Name x pp) [e] [⟨some "key", .Lambda params body scope lpos,kp⟩] pos) (Xk idx fe fb):=by
 rintro pins s σ H Q I ⟨F,τ,R,hq⟩
 have S:xU X scope:=wO hsc
 refine wpAny_Call_Name_kw (uv I hg hm hv ?_ hn hdb)
 refine callWith_kw ?_ (by rw[h1];rfl) (by rw[h1];rfl)
 have hqb:=hq.bind
 have ha:PDA X [e] (za fe zi):=zc he zk (by rw[h1])
 refine thn (ha pos pins s σ H (fun vs H1=>∃F1 d v,vs=[v]∧Ext F H F1 H1∧Rep X.K F1 d v∧fe τ=.ok d) I ⟨F,τ,R,?_⟩) fun us s1 hA=>?_
 ·unfold za zi
  cases z:fe τ with
  |no=>rw[z] at hqb;exact hqb.elim
  |ex cc=>rw[z] at hqb;exact hqb
  |ok d=>
   intro vs F1 H1 x1 rr
   obtain⟨v,rfl,rd⟩:=Reps.one rr
   exact⟨F1,d,v,rfl,x1,rd,rfl⟩
 refine byc fun zG_=>?_
 obtain⟨vs,H1,I1,rvs,F1,d,v,rfl,x1,rd,ed⟩:=hA
 obtain⟨u,rfl,ru⟩:=Vals.one rvs
 refine zG_ ?_
 rw[ed] at hqb
 have hqb:Ok X (match d with
  |.lst ds=>match vm idx fb τ ds with
   |.ok ks=>Zx ks ds
   |_=>.no
  |_=>.no) (Ev X.K F H Q):=hqb
 cases d with
 |lst ds=>
  simp only at hqb
  cases z:vm idx fb τ ds with
  |no=>rw[z] at hqb;exact hqb.elim
  |ex cc=>rw[z] at hqb;exact hqb.elim
  |ok ks=>
   rw[z] at hqb
   refine byc fun zG_=>?_
   obtain⟨kz,ek,h64,nd,ne,hq⟩:=Qm (X:=X) hqb
   obtain⟨lk,hkeys⟩:=ZZ z
   simp only[Rep] at rd
   obtain⟨l,ws,rfl,hF1,rs⟩:=rd
   refine zG_ ?_
   obtain rfl:u=Value.ref l:=ru
   refine kws_cons ?_
   refine MC (P:=P) (c:=c) tu S bm hcode hcd hrow hdef I1 x1.fh (x1.tt R.tt) fun f c' pm ctv H2 s2 I2 x2 hc2=>?_
   refine kws_nil ?_
   have R2:RV X.K F1 τ σ H2:=(R.ext x1).ext x2
   refine wpAny_mono (Up (E:=X.xe) (Q:=Q) (F:=F1) (kz:=kz) I2 x2.fh hF1 rs h64 (by rw[← lk,ek,length_map]) nd ne (fun i d k hd hk pins' s' F' H' v u Q' I' hpin x' rd' ru' hQ'=>?_) fun Da F' H' x' r'=>?_) (fun w s3 ⟨v3,H3,I3,r3,q3⟩=>⟨v3,H3,I3.pins_of fun q hq=>I3.pin q (mem_append_right _ (mem_append_left _ hq)),r3,q3⟩) fun _ _ z=>z
   ·refine MD S hr hfr hp hco hgen hbind hb I' (R2.ext x') (I'.pin _ (mem_append_right _ (hpin _ (mem_append_right _ (List.mem_singleton.mpr rfl))))).1 (x'.hh _ _ hc2) rd' ru' (hkeys i d _ hd ?_) hQ'
    rw[ek,getElem?_map,hk];rfl
   ·exact hq _ F' H' ((x1.trans x2).trans x') r'
 |_=>exact hqb.elim
end
section
variable{prog:Program}{w:World}{A:Around}{R:Result→Shared→Prop}{E:Value→Shared→Prop}{I S:Addr}{fp wr:List Addr}{n:Nat}{P:Nat→Value→Prop}{St:Nat→Heap→Prop}{kw:List (Str×Value)}
end
variable[Tabs]
section
variable{X:Cx}{pos pp kp:Pos}{e e2:Expr}{fe f2:FE}
end
section
variable{K:Frag}{B Z F H:Hp}{τ:DS}{σ:St}
end
section
variable{X:Cx}{pos:Pos}{e tg:Expr}{st:Stmt}{ss:List Stmt}{fe:FE}{fs:FA}{f:FS}
noncomputable def scal:D→Bool
 |.non=>true
 |.bl _=>true
 |.int _=>true
 |.str _=>true
 |_=>false
theorem Gz{K:Frag}{F F':Hp}{d:D}{v:V}(h:scal d=true)(r:Rep K F d v):Rep K F' d v:=by
 cases d <;> first | (simp only[Rep] at r ⊢;exact r) | cases h
end
open PySem.W
section
variable{X:Cx}{pins:List (Addr×Obj)}{σ:St}{F H:Hp}{τ:DS}{s:Shared}{Q:VK}{E:Value→Shared→Prop}
end
open PySem.W
structure Jb(K:Frag)(mg:Str→Option Value)(x:Str)(st:Stmt)(f c T:Addr):Prop where
 ex:∃(oc:Value) (od:Option Addr) (kV doc pm:Value) (an:Option Addr) (ct:Value) (osl:Array (Option Value)),K.lookup f=some ⟨oc,od,.func (fnOf x x (zF st) (zw st) (zh st) .none kV doc pm an (.ref c) ct),osl⟩
 cd:codeIn K (.ref c) x=true
 kp:keepIn K (.ref f)=true
 at_:mg x=some (.ref f)
 tab:codeHdIn K c T=true
section
variable{P:Program}{w:World}{K:Frag}{mg:Str→Option Value}{base:Heap}
theorem DefOk.mkL{x:Str}{st:Stmt}{f c T:Addr}{N ps:List Str}{k n:Nat}{fb:FS}(D:Jb K mg x st f c T)(S:zD N ps (zh st))(hn:ps.length=n)
  (hb:∀(kV doc pm:Value) (an:Option Addr) (cdv ct:Value) (us:List Value),us.length=ps.length→bindArgs (fnOf x x (zF st) (zw st) (zh st) .none kV doc pm an cdv ct) ⟨us,[]⟩=pure (ps.zip us))
  (hbody:∀(A:Around) (outer:List Env) (s:Shared) (H:Hp) (E:XK),Room k (A.deeper (envOfC x (zh st) s.heap.objs.size f (.ref c))) →
   vC (jo CX0 P w K mg base N x (zh st) f (.ref c) A outer s H E).nox (zw st) fb):DefOk P w K mg base x (k+1) n ps (wu N.length fb):=by
 refine byc fun zG_=>?_
 obtain⟨oc,od,kV,doc,pm,an,ct,osl,lk⟩:=D.ex
 refine zG_ ?_
 refine⟨f,_,?_,.all (hb kV doc pm an (.ref c) ct),D.kp,D.at_⟩
 refine zb0 lk D.cd S (fun vs H Q E h=>by rw[hn];exact h.1) fun A outer s H vs Q E hr h=>⟨_,(show PSs _ _ _ from hbody A outer s H E hr).nox,?_⟩
 refine byc fun zG_=>?_
 obtain⟨hl,ds,Fz,fh,tt,r,h⟩:=h
 refine zG_ ?_
 refine⟨H,Fz,Fz,zX N.length ds,YE fh tt r,?_⟩
 unfold wu at h
 cases q:fb (zX N.length ds) with
 |nx τ=>rw[q] at h;exact fun σ F' H' ff RR=>h .non F' H' RR.out (by simp only[Rep])
 |rt d=>rw[q] at h;exact fun v F' H' x rr=>h v F' H' x rr
 |ro d τ=>rw[q] at h;exact fun v σ F' H' ff RR rr=>h v F' H' RR.out rr
 |rb d τ=>rw[q] at h;exact h.elim
 |bk τ=>rw[q] at h;exact h.elim
 |ct τ=>rw[q] at h;exact h.elim
 |ex c=>rw[q] at h;exact h.elim
 |no=>rw[q] at h;exact h.elim
 |rs c τ=>rw[q] at h;exact h.elim
end
section
variable{X:Cx}{pos:Pos}{e a b:Expr}{es:List Expr}{fe fa fb:FE}{fs:FA}
end
noncomputable abbrev Fs:=List (Str×D)
noncomputable def xA(f:Str)(d:D):Fs→Fs
 |[]=>[(f,d)]
 | (g,x)::r=>if g=f then (g,d)::r else (g,x)::xA f d r
noncomputable def xP(f:Str):Fs→Option D
 |[]=>none
 | (g,x)::r=>if f=g then some x else xP f r
theorem Flds.look{K:Frag}{F H:Hp}{c f:Str}:∀{fs:Fs} {vs:List (Str×V)},Flds K F H c fs vs→match xP f fs with
  |some d=>∃v,vs.lookup f=some v∧Fld1 K F H c f d v
  |none=>vs.lookup f=none
 |[],[],_=>rfl
 | (g,d)::r,(g',v)::s,q=>by
  obtain⟨rfl,q2,q3⟩:=q
  have ih:=Flds.look (f:=f) q3
  unfold xP
  by_cases h:f=g
  ·have hb:(f==g)=true:=beq_iff_eq.mpr h
   rw[if_pos h]
   subst h
   exact⟨v,by simp only[List.lookup,hb],q2⟩
  ·have hb:(f==g)=false:=beq_eq_false_iff_ne.mpr h
   rw[if_neg h]
   have e:List.lookup f ((g,v)::s)=List.lookup f s:=by simp only[List.lookup,hb]
   rw[e];exact ih
 |[],_::_,q=>q.elim
 |_::_,[],q=>q.elim
theorem Flds.length{K:Frag}{F H:Hp}{c:Str}:∀{fs:Fs} {vs:List (Str×V)},Flds K F H c fs vs→fs.length=vs.length
 |[],[],_=>rfl
 |_::r,_::s,q=>by rw[length_cons,length_cons,Flds.length q.2.2]
 |[],_::_,q=>q.elim
 |_::_,[],q=>q.elim
theorem Flds.put{K:Frag}{F H:Hp}{c f:Str}{d:D}{v:V}(r:Fld1 K F H c f d v):∀{fs:Fs} {vs:List (Str×V)},Flds K F H c fs vs→Flds K F H c (xA f d fs) (yK f v vs)
 |[],[],_=>⟨rfl,r,trivial⟩
 | (g,x)::t,(g',y)::s,q=>by
  obtain⟨rfl,q2,q3⟩:=q
  have ih:=Flds.put (f:=f) r q3
  unfold xA yK
  by_cases h:g=f
  ·rw[if_pos h,if_pos h];subst h;exact⟨rfl,r,q3⟩
  ·rw[if_neg h,if_neg h];exact⟨rfl,q2,ih⟩
 |[],_::_,q=>q.elim
 |_::_,[],q=>q.elim
theorem ownL_cons{H:Hp}{c f:Str}{v:V}{r:List (Str×V)}{l:Addr}:l∈zP H c ((f,v)::r)↔l∈yr H c f v∨l∈zP H c r:=mem_append
theorem YS{H:Hp}{c f:Str}{v:V}(h:Tabs.own c f=false)(h2:Tabs.own2 c f=false):yr H c f v=[]:=by
 unfold yr
 cases v with
 |ref l=>simp only;rw[if_neg (by rw[h];simp),if_neg (by rw[h2];simp)]
 |_=>rfl
theorem wL{H:Hp}{c f:Str}{l:Addr}(h:Tabs.own c f=true):yr H c f (.ref l)=[l]:=by
 unfold yr
 simp only
 rw[if_pos h]
theorem ZD{H:Hp}{c f:Str}{v:V}(h:Tabs.own c f=false)(h2:Tabs.own2 c f=false):∀vs:List (Str×V),zP H c (yK f v vs)=zP H c vs:=by
 intro l_
 induction l_ with
 |nil=>
  show yr H c f v++[]=[];rw[YS h h2];rfl
 |cons p_ r ih_=>
  obtain⟨g,x⟩:=p_
  rw[show yK f v ((g,x)::r)=(if g=f then (g,v)::r else (g,x)::yK f v r) from rfl]
  by_cases z:g=f
  ·subst z
   rw[if_pos rfl]
   show yr H c g v++zP H c r=yr H c g x++zP H c r
   rw[YS h h2,YS h h2]
  ·rw[if_neg z]
   show yr H c g x++zP H c (yK f v r)=yr H c g x++zP H c r
   rw[ih_]
theorem YR{H:Hp}{c f:Str}{l p:Addr}(ho:Tabs.own c f=true):∀{vs:List (Str×V)},l∈zP H c (yK f (.ref p) vs)→l=p∨l∈zP H c vs
 |[],h=>by
  rcases ownL_cons.mp h with z|z
  ·rw[wL ho] at z;exact .inl (by simpa using z)
  ·cases z
 | (g,x)::r,h=>by
  rw[show yK f (.ref p) ((g,x)::r)=(if g=f then (g,.ref p)::r else (g,x)::yK f (.ref p) r) from rfl] at h
  by_cases z:g=f
  ·rw[if_pos z] at h
   rcases ownL_cons.mp h with e|e
   ·subst z;rw[wL ho] at e;exact .inl (by simpa using e)
   ·exact .inr (ownL_cons.mpr (.inr e))
  ·rw[if_neg z] at h
   rcases ownL_cons.mp h with e|e
   ·exact .inr (ownL_cons.mpr (.inl e))
   ·rcases YR ho e with e|e
    ·exact .inl e
    ·exact .inr (ownL_cons.mpr (.inr e))
theorem ownL_nd{H:Hp}{c f:Str}{v:V}{r:List (Str×V)}:(zP H c ((f,v)::r)).Nodup↔(yr H c f v).Nodup∧(zP H c r).Nodup∧∀l∈yr H c f v,l∉zP H c r:=by
 show(yr H c f v++zP H c r).Nodup↔_
 rw[List.nodup_append]
 exact⟨fun ⟨a,b,d⟩=>⟨a,b,fun l h1 h2=>d l h1 l h2 rfl⟩,fun ⟨a,b,d⟩=>⟨a,b,fun l h1 m h2 e=>d l h1 (by rw[e];exact h2)⟩⟩
theorem ZW{H:Hp}{c f:Str}{p:Addr}(ho:Tabs.own c f=true):∀{vs:List (Str×V)},(zP H c vs).Nodup→p∉zP H c vs→(zP H c (yK f (.ref p) vs)).Nodup
 |[],_,_=>ownL_nd.mpr ⟨by rw[wL ho];simp,(show([]:List Addr).Nodup from nodup_nil),fun _ _ h=>(by cases h)⟩
 | (g,x)::r,h,hp=>by
  rw[show yK f (.ref p) ((g,x)::r)=(if g=f then (g,.ref p)::r else (g,x)::yK f (.ref p) r) from rfl]
  obtain⟨h0,h2,h1⟩:=ownL_nd.mp h
  have hp2:p∉zP H c r:=fun z=>hp (ownL_cons.mpr (.inr z))
  by_cases z:g=f
  ·subst z
   rw[if_pos rfl]
   refine ownL_nd.mpr ⟨by rw[wL ho];simp,h2,fun l e=>?_⟩
   rw[wL ho] at e
   have:l=p:=by simpa using e
   subst this
   exact hp2
  ·rw[if_neg z]
   refine ownL_nd.mpr ⟨h0,ZW ho h2 hp2,fun l e1 hm=>?_⟩
   rcases YR ho hm with e|e
   ·subst e;exact hp (ownL_cons.mpr (.inl e1))
   ·exact h1 l e1 e
theorem jg{H:Hp}{c f:Str}{l:Addr}(ho:Tabs.own c f=true):∀{s:List (Str×V)},s.lookup f=some (.ref l)→l∈zP H c s
 |[],z=>by cases z
 | (g,w)::s,z=>by
  by_cases h:f=g
  ·subst h
   have:w=.ref l:=by simpa[List.lookup] using z
   subst this
   exact ownL_cons.mpr (.inl (by rw[wL ho];exact mem_cons_self))
  ·have hb:(f==g)=false:=beq_eq_false_iff_ne.mpr h
   exact ownL_cons.mpr (.inr (jg ho (by simpa[List.lookup,hb] using z)))
theorem Flds.updL{K:Frag}{F H:Hp}{c f:Str}{l:Addr}{ds:List D}{ws:List V}(ho:Tabs.own c f=true)(r:Reps K F ds ws):∀{fs:Fs} {vs:List (Str×V)},Flds K F H c fs vs→(zP H c vs).Nodup→vs.lookup f=some (.ref l)→Flds K F (upd H l (.lst ws)) c (xA f (.lst ds) fs) vs∧zP (upd H l (.lst ws)) c vs=zP H c vs
 |[],[],_,_,e=>by cases e
 | (g,x)::t,(g',y)::s,q,nd,e=>by
  refine byc fun zG_=>?_
  obtain⟨rfl,q2,q3⟩:=q
  obtain⟨n0,n2,n1⟩:=ownL_nd.mp nd
  refine zG_ ?_
  unfold xA
  by_cases h:g=f
  ·subst h
   rw[if_pos rfl]
   have:y=.ref l:=by simpa[List.lookup] using e
   subst this
   unfold Fld1 at q2
   rw[if_pos ho] at q2
   refine byc fun zG_=>?_
   obtain⟨ds0,l',ws0,e1,e2,e3,e4,e5⟩:=q2
   refine zG_ ?_
   cases e2
   have kk:∀l2 ws2,l2∈zP H c s→H l2=some (.lst ws2)→upd H l (.lst ws) l2=some (.lst ws2):=fun l2 ws2 hl e6=>by
    have:l2≠l:=fun z=>by subst z;exact n1 l2 (by rw[wL ho];exact mem_cons_self) hl
    rw[zm this];exact e6
   refine⟨⟨rfl,?_,q3.keep (Same.refl F) fun l2 ws2 hl e6 e7=>⟨kk l2 ws2 hl e6,e7⟩⟩,?_⟩
   ·unfold Fld1;rw[if_pos ho];exact⟨ds,l,ws,rfl,rfl,zo,e4,r⟩
   ·show yr _ c g (.ref l)++zP _ c s=yr H c g (.ref l)++zP H c s
    rw[wL ho,wL ho,q3.same kk]
  ·rw[if_neg h]
   have hb:(f==g)=false:=beq_eq_false_iff_ne.mpr fun z=>h z.symm
   have e':s.lookup f=some (.ref l):=by simpa[List.lookup,hb] using e
   obtain⟨i1,i2⟩:=Flds.updL ho r q3 n2 e'
   have hin:l∈zP H c s:=jg ho e'
   have kk:∀l2 ws2,l2∈yr H c g y→H l2=some (.lst ws2)→upd H l (.lst ws) l2=some (.lst ws2):=fun l2 ws2 hl e6=>by
    have:l2≠l:=fun z=>by subst z;exact n1 l2 hl hin
    rw[zm this];exact e6
   refine⟨⟨rfl,q2.keep (Same.refl F) fun l2 ws2 hl e6 e7=>⟨kk l2 ws2 hl e6,e7⟩,i1⟩,?_⟩
   show yr _ c g y++zP _ c s=yr H c g y++zP H c s
   rw[q2.same kk,i2]
 |[],_::_,q,_,_=>q.elim
 |_::_,[],q,_,_=>q.elim
noncomputable def vT(τ:DS)(i:Nat)(c:Str):Rs Fs:=match τ[i]? with
 | some (some (.obj _ c' fs))=>if c'=c then .ok fs else .no
 | some (some (.obr c' fs))=>if c'=c then .ok fs else .no
 |_=>.no
noncomputable def uL(τ:DS)(i:Nat)(c:Str):Rs (Nat×Fs):=match τ[i]? with
 | some (some (.obj n c' fs))=>if c'=c then .ok (n,fs) else .no
 |_=>.no
theorem ur{X:Cx}{τ:DS}{i:Nat}{c:Str}{P:Nat×Fs→Prop}(h:Ok X (uL τ i c) P):∃n fs,τ[i]?=some (some (.obj n c fs))∧P (n,fs):=by
 unfold uL at h
 split at h
 ·rename_i n c' fs e
  by_cases z:c'=c
  ·subst z;rw[if_pos rfl] at h;exact⟨n,fs,e,h⟩
  ·rw[if_neg z] at h;exact h.elim
 ·exact h.elim
theorem Yq{X:Cx}{F H:Hp}{τ:DS}{σ:St}{i:Nat}{c:Str}{P:Fs→Prop}(R:RV X.K F τ σ H)(h:Ok X (vT τ i c) P) :
  ∃fs a C dx vs,σ[i]?=some (some (.ref a))∧H a=some (.ins C dx vs)∧nsIn X.K mainGlobals c=some (some (.ref C))∧Flds X.K F H c fs vs∧P fs:=by
 unfold vT at h
 split at h
 ·rename_i n c' fs e
  by_cases z:c'=c
  ·subst z;rw[if_pos rfl] at h
   refine byc fun zG_=>?_
   obtain⟨a,h1,C,dx,vs,h2,h3,h4,h5,_⟩:=R.ob.at_ i n c' fs e
   refine zG_ ?_
   exact⟨fs,a,C,dx,vs,h1,h2,h4,h5,h⟩
  ·rw[if_neg z] at h;exact h.elim
 ·rename_i c' fs e
  by_cases z:c'=c
  ·subst z;rw[if_pos rfl] at h
   refine byc fun zG_=>?_
   obtain⟨a,C,dx,vs,h1,h2,h4,h5⟩:=R.ob.rd i c' fs e
   refine zG_ ?_
   exact⟨fs,a,C,dx,vs,h1,h2,h4,h5,h⟩
  ·rw[if_neg z] at h;exact h.elim
 ·exact h.elim
noncomputable def eAt(i:Nat)(c f:Str):FE:=fun τ=>(vT τ i c).bind fun fs=>match xP f fs with
 |some d=>.ok d
 |none=>.no
section
variable{X:Cx}{pos:Pos}{e:Expr}{es:List Expr}{fe:FE}{fs:FA}{C:Addr}{c f x:Str}{i:Nat}
theorem vR{p1:Pos}(hx:PE X (.Name x p1) (yX i))(hC:nsIn X.K mainGlobals c=some (some (.ref C)))(cl:Cls X.K C)(na:NoAttr X.K C f)(ho:Tabs.own c f=false∧Tabs.own2 c f=false:=by exact⟨rfl,rfl⟩)
  (hb:attributeBase (.Name x p1) f X.env (eval (.Name x p1) X.env)=eval (.Name x p1) X.env:=by rfl):PDE X (.Attribute (.Name x p1) f pos) (eAt i c f):=
 PE.imp (GR hx hb) fun σ H Q z_=>by
  refine byc fun zG_=>?_
  obtain⟨F,τ,R,h⟩:=z_
  obtain⟨fs,a,C',dx,vs,h1,h2,h3,h4,h5⟩:=Yq R h.bind
  refine zG_ ?_
  rw[hC] at h3
  obtain rfl:C=C':=by cases h3;rfl
  have l:=h4.look (f:=f)
  cases q:xP f fs with
  |none=>rw[q] at h5;exact h5.elim
  |some d=>
   rw[q] at h5 l
   obtain⟨v,l1,l2⟩:=l
   unfold Fld1 at l2
   rw[if_neg (by rw[ho.1];simp),if_neg (by rw[ho.2];simp)] at l2
   exact⟨_,h1,a,C,dx,vs,v,rfl,h2,cl,na,l1,h5 v F H (Ext.refl R.fh) l2⟩
end
omit [Tabs] in
theorem MF{o:HO}{r r':Option HO}(a:Kp o r)(b:∀u:HO,r=Option.some u→Kp u r'):Kp o r':=by
 cases o <;> first|exact b _ a | (obtain⟨ps,q⟩:=a;have h2:=b (HO.tbl ps) q;exact h2)
theorem RV.objset{K:Frag}{F F' H H':Hp}{τ:DS}{σ:St}{i n:Nat}{c:Str}{fs fs':Fs}{a C dx:Addr}{vs:List (Str×V)}(R:RV K F τ σ H)(hi:τ[i]?=some (some (.obj n c fs)))(ha:σ[i]?=some (some (.ref a)))(he:H a=some (.ins C dx vs))
  (ff:Same F F') (fh:Same F' H') (tt:TbT F' H') (kp:∀b u,b≠a→b∉zP H c vs→H b=some u→Kp u (H' b)) (nwF:∀b o,F' b=some o→F b=some o∨H b=none∨b=a∨b∈zP H c vs)
  (ob:Vh K F' H' c fs' a) (nw:∀l∈Lof H' c a,l∈zP H c vs∨H l=none):RV K F' (τ.set i (some (.obj n c fs'))) σ H':=by
 have hl:i<τ.length:=(List.getElem?_eq_some_iff.mp hi).1
 have hfl:Flds K F H c fs vs:=by
  refine byc fun zG_=>?_
  obtain⟨a',q1,C',dx',vs',q2,_,_,q5,_⟩:=R.ob.at_ i n c fs hi
  refine zG_ ?_
  rw[ha] at q1;cases q1
  rw[he] at q2;cases q2;exact q5
 have nl:∀{b:Addr} {u:HO},H b=some u→(∀ws,u≠.lst ws)→b∉zP H c vs:=fun {b u} e m z=>by
  obtain⟨_,ws,q⟩:=hfl.own z
  rw[e] at q;cases q;exact m _ rfl
 have na:∀{b:Addr} {u:HO},H b=some u→(∀C dx vs,u≠.ins C dx vs)→b≠a:=fun {b u} e m z=>by
  subst z;rw[he] at e;cases e;exact m _ _ _ rfl
 have nf:∀{b:Addr} {u:HO},b≠a→b∉zP H c vs→H b=some u→F b=none→F' b=none:=fun {b u} h1 h2 e h3=>by
  cases q:F' b with
  |none=>rfl
  |some w=>
   rcases nwF b w q with z|z|z|z
   ·rw[h3] at z;cases z
   ·rw[e] at z;cases z
   ·exact absurd z h1
   ·exact absurd z h2
 have bk:∀{j:Nat} {s:Option Sl},(∀m c1 g,s≠some (.obj m c1 g))→(τ.set i (some (.obj n c fs')))[j]?=some s→i≠j∧τ[j]?=some s:=fun {j s} m h=>by
  by_cases e:i=j
  ·subst e;rw[getElem?_set_self hl] at h;cases h;exact absurd rfl (m _ _ _)
  ·rw[getElem?_set_ne e] at h;exact⟨e,h⟩
 have bs:∀{j:Nat} {c1:Str},i≠j→ObS (τ.set i (some (.obj n c fs')))[j]? c1→ObS τ[j]? c1:=fun {j c1} e h=>by
  rw[getElem?_set_ne e] at h;exact h
 have oth:∀{j:Nat} {c1:Str} {a':Addr},i≠j→ObS τ[j]? c1→σ[j]?=some (some (.ref a'))→a'≠a∧Lof H' c1 a'=Lof H c1 a'∧∀l∈Lof H c1 a',l≠a∧l∉zP H c vs:=fun {j c1 a'} e h ea=>by
  have n1:a'≠a:=fun z=>by subst z;exact R.ob.dis i j n c c1 fs a' e hi h ha ea
  refine byc fun zG_=>?_
  obtain⟨a2,C',dx',vs',gs,h1,h2,h3⟩:=R.ob.get h
  refine zG_ ?_
  rw[ea] at h1;cases h1
  have ap:∀l∈Lof H c1 a',l≠a∧l∉zP H c vs:=fun l hl2=>⟨fun z=>?_,fun z=>?_⟩
  refine⟨n1,?_,ap⟩
  ·rw[Lof.ins h2,Lof.ins (show H' a'=some (.ins C' dx' vs') from kp a' _ n1 (nl h2 fun _ z=>nomatch z) h2)]
   exact h3.same fun l ws q e1=>by
    obtain⟨m1,m2⟩:=ap l (by rw[Lof.ins h2];exact q)
    exact kp l _ m1 m2 e1
  ·subst z
   rw[Lof.ins h2] at hl2
   obtain⟨_,ws,q⟩:=h3.own hl2
   rw[he] at q;cases q
  ·exact R.ob.ll i j n c c1 fs a a' l e hi h ha ea (by rw[Lof.ins he];exact z) hl2
 refine⟨fh,by simp[R.len],fun j d h=>?_,fun j ds h=>?_,fun j k ds es b hjk h1 h2 h3 h4=>R.dis j k ds es b hjk (bk (fun _ _ _ z=>by cases z) h1).2 (bk (fun _ _ _ z=>by cases z) h2).2 h3 h4,tt,⟨fun j m c1 g h=>?_,fun j k m c1 c2 g1 b hjk h1 h2 h3 h4=>?_,fun j c1 g h=>?_,fun j k m c1 c2 g1 b b' l hjk h1 h2 h3 h4 h5 h6=>?_,fun j k c1 ds b l h1 h2 h3 h4 h5=>?_⟩⟩
 ·obtain⟨v,h1,h2⟩:=R.val j d (bk (fun _ _ _ z=>by cases z) h).2
  exact⟨v,h1,h2.mono ff⟩
 ·have h:=(bk (fun _ _ _ z=>by cases z) h).2
  refine byc fun zG_=>?_
  obtain⟨b,ws,q1,q2,q3,q4⟩:=R.own j ds h
  refine zG_ ?_
  have n1:=na q2 fun _ _ _ z=>nomatch z
  have n2:b∉zP H c vs:=fun z=>R.ob.lo i j c ds a b (.inl ⟨n,fs,hi⟩) h ha q1 (by rw[Lof.ins he];exact z)
  exact⟨b,ws,q1,kp b _ n1 n2 q2,nf n1 n2 q2 q3,q4.mono ff⟩
 ·by_cases e:i=j
  ·subst e;rw[getElem?_set_self hl] at h;cases h;exact⟨a,ha,ob⟩
  ·rw[getElem?_set_ne e] at h
   refine byc fun zG_=>?_
   obtain⟨a',q1,C',dx',vs',q2,q3,q4,q5,q6,q7⟩:=R.ob.at_ j m c1 g h
   obtain⟨n1,_,n3⟩:=oth e (.inl ⟨m,g,h⟩) q1
   refine zG_ ?_
   have n2:=nl q2 fun _ z=>nomatch z
   refine⟨a',q1,C',dx',vs',kp a' _ n1 n2 q2,nf n1 n2 q2 q3,q4,q5.keep ff fun l ws hl2 e3 e4=>?_,kp dx' _ (na q6 fun _ _ _ z=>nomatch z) (nl q6 fun _ z=>nomatch z) q6,?_⟩
   ·obtain⟨m1,m2⟩:=n3 l (by rw[Lof.ins q2];exact hl2)
    exact⟨kp l _ m1 m2 e3,nf m1 m2 e3 e4⟩
   ·rw[q5.same fun l ws q e1=>(by
     obtain⟨m1,m2⟩:=n3 l (by rw[Lof.ins q2];exact q)
     exact kp l _ m1 m2 e1)]
    exact q7
 ·by_cases e1:i=j
  ·subst e1
   have h2:=bs hjk h2
   exact R.ob.dis i k n c c2 fs b hjk hi h2 h3 h4
  ·rw[getElem?_set_ne e1] at h1
   by_cases e2:i=k
   ·subst e2
    have:b=a:=by rw[ha] at h4;cases h4;rfl
    subst this
    exact(oth e1 (.inl ⟨m,g1,h1⟩) h3).1 rfl
   ·exact R.ob.dis j k m c1 c2 g1 b hjk h1 (bs e2 h2) h3 h4
 ·refine byc fun zG_=>?_
  obtain⟨e,h⟩:=bk (fun _ _ _ z=>by cases z) h
  obtain⟨a',C',dx',vs',q1,q2,q4,q5⟩:=R.ob.rd j c1 g h
  obtain⟨n1,_,n3⟩:=oth e (.inr ⟨g,h⟩) q1
  refine zG_ ?_
  refine⟨a',C',dx',vs',q1,kp a' _ n1 (nl q2 fun _ z=>nomatch z) q2,q4,q5.keep ff fun l ws hl2 e3 e4=>?_⟩
  obtain⟨m1,m2⟩:=n3 l (by rw[Lof.ins q2];exact hl2)
  exact⟨kp l _ m1 m2 e3,nf m1 m2 e3 e4⟩
 ·-- own lists of two
  have self:∀{k:Nat} {c2:Str} {b':Addr},i≠k→ObS τ[k]? c2→σ[k]?=some (some (.ref b'))→l∈Lof H' c a→l∈Lof H c2 b'→False:=fun {k c2 b'} e h eb m1 m2=>by
   rcases nw l m1 with z|z
   ·exact((oth e h eb).2.2 l m2).2 z
   ·refine byc fun zG_=>?_
    obtain⟨a2,C',dx',vs',gs,g1,g2,g3⟩:=R.ob.get h
    refine zG_ ?_
    rw[eb] at g1;cases g1
    rw[Lof.ins g2] at m2
    obtain⟨_,ws,q⟩:=g3.own m2
    rw[z] at q;cases q
  by_cases e1:i=j
  ·subst e1
   rw[getElem?_set_self hl] at h1
   have ec:c=c1:=by cases h1;rfl
   subst ec
   have:b=a:=by rw[ha] at h3;cases h3;rfl
   subst this
   have h2:=bs hjk h2
   rw[(oth hjk h2 h4).2.1] at h6
   exact self hjk h2 h4 h5 h6
  ·rw[getElem?_set_ne e1] at h1
   rw[(oth e1 (.inl ⟨m,g1,h1⟩) h3).2.1] at h5
   by_cases e2:i=k
   ·subst e2
    have ec:c=c2:=by
     rw[getElem?_set_self hl] at h2
     rcases h2 with ⟨_,_,h2⟩|⟨_,h2⟩
     ·cases h2;rfl
     ·cases h2
    subst ec
    have:b'=a:=by rw[ha] at h4;cases h4;rfl
    subst this
    exact self e1 (.inl ⟨m,g1,h1⟩) h3 h6 h5
   ·have h2:=bs e2 h2
    rw[(oth e2 h2 h4).2.1] at h6
    exact R.ob.ll j k m c1 c2 g1 b b' l hjk h1 h2 h3 h4 h5 h6
 ·have h2:=(bk (fun _ _ _ z=>by cases z) h2).2
  by_cases e1:i=j
  ·subst e1
   have ec:c=c1:=by
    rw[getElem?_set_self hl] at h1
    rcases h1 with ⟨_,_,h1⟩|⟨_,h1⟩
    ·cases h1;rfl
    ·cases h1
   subst ec
   have:b=a:=by rw[ha] at h3;cases h3;rfl
   subst this
   rcases nw l h5 with z|z
   ·exact R.ob.lo i k c ds b l (.inl ⟨n,fs,hi⟩) h2 ha h4 (by rw[Lof.ins he];exact z)
   ·refine byc fun zG_=>?_
    obtain⟨p,ws,q1,q2,_⟩:=R.own k ds h2
    refine zG_ ?_
    rw[h4] at q1;cases q1
    rw[z] at q2;cases q2
  ·have h1:=bs e1 h1
   rw[(oth e1 h1 h3).2.1] at h5
   exact R.ob.lo j k c1 ds b l h1 h2 h3 h4 h5
theorem RS.objset{K:Frag}{B Z F F' H H':Hp}{τ:DS}{σ:St}{i n:Nat}{c:Str}{fs fs':Fs}{a C dx:Addr}{vs:List (Str×V)}(R:RS K B Z F τ σ H)(hi:τ[i]?=some (some (.obj n c fs)))(ha:σ[i]?=some (some (.ref a)))(he:H a=some (.ins C dx vs))
  (ff:Same F F') (fh:Same F' H') (tt:TbT F' H') (kp:∀b u,b≠a→b∉zP H c vs→H b=some u→Kp u (H' b)) (nwF:∀b o,F' b=some o→F b=some o∨H b=none∨b=a∨b∈zP H c vs)
  (ob:Vh K F' H' c fs' a) (nw:∀l∈Lof H' c a,l∈zP H c vs∨H l=none):RS K B Z F' (τ.set i (some (.obj n c fs'))) σ H':=by
 have hl:i<τ.length:=(List.getElem?_eq_some_iff.mp hi).1
 obtain⟨hB,hBl⟩:=R.oo i n c fs a hi ha
 rw[Lof.ins he] at hBl
 have rv:=R.rv.objset hi ha he ff fh tt kp nwF ob nw
 refine⟨rv,fun b o e=>?_,R.zf.trans ff,fun b o e=>?_,fun j ds b h1 h2=>?_,fun j m c1 g b h1 h2=>?_,fun a0 d0 b1 b2 j m c1 g h=>?_,fun j c1 g b h1 h2=>?_⟩
 ·have n1:b≠a:=fun z=>by subst z;rw[hB] at e;cases e
  have n2:b∉zP H c vs:=fun z=>by rw[hBl b z] at e;cases e
  exact MF (R.bh b o e) fun u hu=>kp b u n1 n2 hu
 ·rcases nwF b o e with z|z|z|z
  ·exact R.nb b o z
  ·exact .inr (xq R.bh z)
  ·exact .inr (by rw[z];exact hB)
  ·exact .inr (hBl b z)
 ·by_cases e:i=j
  ·subst e;rw[getElem?_set_self hl] at h1;cases h1
  ·rw[getElem?_set_ne e] at h1;exact R.ob j ds b h1 h2
 ·by_cases e:i=j
  ·subst e
   rw[getElem?_set_self hl] at h1
   have ec:c=c1:=by cases h1;rfl
   subst ec
   have:b=a:=by rw[ha] at h2;cases h2;rfl
   subst this
   refine⟨hB,fun l hl=>?_⟩
   rcases nw l hl with z|z
   ·exact hBl l z
   ·exact xq R.bh z
  ·rw[getElem?_set_ne e] at h1
   obtain⟨q1,q2⟩:=R.oo j m c1 g b h1 h2
   refine⟨q1,fun l hl=>q2 l ?_⟩
   refine byc fun zG_=>?_
   obtain⟨a',p1,C',dx',vs',p2,_,_,p2s,_⟩:=R.rv.ob.at_ j m c1 g h1
   refine zG_ ?_
   rw[h2] at p1;cases p1
   have n1:b≠a:=fun z=>by subst z;exact R.rv.ob.dis i j n c c1 fs b e hi (.inl ⟨m,g,h1⟩) ha h2
   have n2:b∉zP H c vs:=fun z=>by
    refine byc fun zG_=>?_
    obtain⟨a2,p1,C2,dx2,vs2,p3,_,_,p5,_⟩:=R.rv.ob.at_ i n c fs hi
    refine zG_ ?_
    rw[ha] at p1;cases p1
    rw[he] at p3;cases p3
    obtain⟨_,ws,q⟩:=p5.own z
    rw[p2] at q;cases q
   rw[Lof.ins p2]
   rw[Lof.ins (show H' b=some (.ins C' dx' vs') from kp b _ n1 n2 p2)] at hl
   rw[← p2s.same fun l ws q e1=>(by
    have m1:l≠a:=fun z=>by
     subst z
     obtain⟨_,ws2,q2⟩:=p2s.own q
     rw[he] at q2;cases q2
    have m2:l∉zP H c vs:=fun z=>R.rv.ob.ll i j n c c1 fs a b l e hi (.inl ⟨m,g,h1⟩) ha h2 (by rw[Lof.ins he];exact z) (by rw[Lof.ins p2];exact q)
    exact(show H' l=some (.lst ws) from kp l _ m1 m2 e1))]
   exact hl
 ·by_cases e:i=j
  ·subst e
   rw[getElem?_set_self hl] at h
   have em:n=m+1:=by cases h;rfl
   subst em
   exact R.sf a0 d0 b1 b2 i m c fs hi
  ·rw[getElem?_set_ne e] at h;exact R.sf a0 d0 b1 b2 j m c1 g h
 ·by_cases e:i=j
  ·subst e;rw[getElem?_set_self hl] at h1;cases h1
  ·rw[getElem?_set_ne e] at h1;exact R.ro j c1 g b h1 h2
omit [Tabs] in
theorem TOk.stepI{F H H':Hp}{r:Addr×Nat×Nat×Str}(t:TOk F H r)(k:∀a o,H a=some o→(∀C dx vs,o≠.ins C dx vs)→H' a=some o):TOk F H' r:=by
 refine⟨t.1,?_⟩
 rcases t.2 with e|⟨c,e,e2⟩
 ·exact .inl (k _ _ e fun _ _ _ z=>nomatch z)
 ·exact .inr ⟨c,k _ _ e (fun _ _ _ z=>nomatch z),k _ _ e2 fun _ _ _ z=>nomatch z⟩
theorem TbT.ins{F H:Hp}{a C dx:Addr}{vs vs':List (Str×V)}(t:TbT F H)(he:H a=some (.ins C dx vs)):TbT F (L2.upd H a (.ins C dx vs')):=
 ⟨fun r hr=>(t.1 r hr).stepI fun b o e n=>by
  have:b≠a:=fun z=>by subst z;rw[he] at e;cases e;exact n _ _ _ rfl
  rw[zm this];exact e,fun d b e=>by
  have e:=wq (fun _ z=>by cases z) d b e
  refine byc fun zG_=>?_
  obtain⟨C',dx',vs'',h⟩:=t.2 d b e
  refine zG_ ?_
  by_cases z:b=a
  ·subst z;exact⟨C,dx,vs',zo⟩
  ·exact⟨C',dx',vs'',by rw[zm z];exact h⟩⟩
theorem RS.attV{K:Frag}{B Z F H:Hp}{τ:DS}{σ:St}{i n:Nat}{c f:Str}{fs:Fs}{a C dx:Addr}{vs:List (Str×V)}{d:D}{v:V}(R:RS K B Z F τ σ H)(hi:τ[i]?=some (some (.obj n c fs)))(ha:σ[i]?=some (some (.ref a)))(he:H a=some (.ins C dx vs))(ho:Tabs.own c f=false∧Tabs.own2 c f=false)(r:Rep K F d v) :
  RS K B Z F (τ.set i (some (.obj n c (xA f d fs)))) σ (L2.upd H a (.ins C dx (yK f v vs))):=by
 refine byc fun zG_=>?_
 obtain⟨a',q1,C',dx',vs',q2,q3,q4,q5,q6,q7⟩:=R.rv.ob.at_ i n c fs hi
 refine zG_ ?_
 rw[ha] at q1;cases q1
 rw[he] at q2;cases q2
 have hd:dx≠a:=fun z=>by subst z;rw[he] at q6;cases q6
 have sm:zP (L2.upd H a (.ins C dx (yK f v vs))) c vs=zP H c vs:=q5.same fun l ws _ e1=>by
  have:l≠a:=fun z=>by subst z;rw[he] at e1;cases e1
  rw[zm this];exact e1
 have hL:Lof (L2.upd H a (.ins C dx (yK f v vs))) c a=zP H c vs:=by rw[Lof.ins zo,ZD ho.1 ho.2,sm]
 refine R.objset hi ha he (Same.refl F) (fun b o e=>?_) (R.rv.tt.ins he) (fun b u h1 _ e=>.of (by rw[zm h1];exact e)) (fun b o e=>.inl e) ⟨C,dx,yK f v vs,zo,q3,q4,?_,by rw[zm hd];exact q6,by rw[ZD ho.1 ho.2,sm];exact q7⟩ fun l hl=>.inl (by rw[hL] at hl;exact hl)
 ·have:b≠a:=fun z=>by subst z;rw[q3] at e;cases e
  rw[zm this];exact R.rv.fh b o e
 ·refine(q5.put (f:=f) (d:=d) (v:=v) (by unfold Fld1;rw[if_neg (by rw[ho.1];simp),if_neg (by rw[ho.2];simp)];exact r)).keep (Same.refl F) fun l ws hl e1 e2=>⟨?_,e2⟩
  have:l≠a:=fun z=>by subst z;rw[he] at e1;cases e1
  rw[zm this];exact e1
noncomputable def sAt(i:Nat)(c f:Str)(fe:FE):FS:=fun τ=>Fl.of (fe τ) fun d=>Fl.of (uL τ i c) fun p=>if p.2.length<1000 then .nx (τ.set i (some (.obj p.1 c (xA f d p.2)))) else .no
section
variable{X:Cx}{pos:Pos}{e:Expr}{es:List Expr}{fe:FE}{fs:FA}{C:Addr}{c f x:Str}{i:Nat}
theorem WK{p1 pos':Pos}(hx:PE X (.Name x p1) (yX i))(hC:nsIn X.K mainGlobals c=some (some (.ref C)))(cl:Cls X.K C)(na:NoAttr X.K C f)(he:PDE X e fe)(ho:Tabs.own c f=false∧Tabs.own2 c f=false:=by exact⟨rfl,rfl⟩)
  (hs:swapsWith e (some (.Attribute (.Name x p1) f pos')) pos.line X.env=pure false:=by rfl):PDS X (.Assign [.Attribute (.Name x p1) f pos'] e pos) (sAt i c f fe):=
 PS.imp (WH hx he hs) fun E σ H z_=>by
  refine byc fun zG_=>?_
  obtain⟨B,Z,F,τ,R,h⟩:=z_
  refine zG_ ?_
  refine tE.at R h.of fun d v F1 H1 g x R1 r=>?_
  refine byc fun zG_=>?_
  obtain⟨n,fs,h1,h2⟩:=ur (X:=X) (Post.of g)
  obtain⟨a,q1,C',dx,vs,q2,q3,q4,q5,q6⟩:=R1.rv.ob.at_ i n c fs h1
  refine zG_ ?_
  rw[hC] at q4
  obtain rfl:C=C':=by cases q4;rfl
  by_cases z:fs.length<1000
  ·dsimp only at h2
   rw[if_pos z] at h2
   exact⟨_,q1,a,C,dx,vs,rfl,q2,cl,na,by rw[← q5.length];exact z,h2 σ F1 _ x.ff (R1.attV h1 q1 q2 ho r)⟩
  ·dsimp only at h2
   rw[if_neg z] at h2;exact h2.elim
end
theorem RS.attN{K:Frag}{B Z F H:Hp}{τ:DS}{σ:St}{i n:Nat}{c f:Str}{fs:Fs}{a C dx p:Addr}{vs:List (Str×V)}{ds:List D}{ws:List V}(R:RS K B Z F τ σ H)(hi:τ[i]?=some (some (.obj n c fs)))(ha:σ[i]?=some (some (.ref a)))(he:H a=some (.ins C dx vs))(ho:Tabs.own c f=true)(hp:H p=none)(r:Reps K F ds ws) :
  RS K B Z F (τ.set i (some (.obj n c (xA f (.lst ds) fs)))) σ (L2.upd (L2.upd H p (.lst ws)) a (.ins C dx (yK f (.ref p) vs))):=by
 refine byc fun zG_=>?_
 obtain⟨a',q1,C',dx',vs',q2,q3,q4,q5,q6,q7⟩:=R.rv.ob.at_ i n c fs hi
 refine zG_ ?_
 rw[ha] at q1;cases q1
 rw[he] at q2;cases q2
 have hpa:p≠a:=fun z=>by subst z;rw[he] at hp;cases hp
 have hd:dx≠a:=fun z=>by subst z;rw[he] at q6;cases q6
 have hdp:dx≠p:=zA q6 hp
 have hFp:=zI R.rv.fh hp
 have hpl:p∉zP H c vs:=fun z=>by
  obtain⟨_,ws',q⟩:=q5.own z
  rw[hp] at q;cases q
 have he':L2.upd H p (.lst ws) a=some (.ins C dx vs):=by rw[zm (Ne.symm hpa)];exact he
 have kpp:∀{b:Addr} {u:HO},b≠a→H b=some u→L2.upd (L2.upd H p (.lst ws)) a (.ins C dx (yK f (.ref p) vs)) b=some u:=fun {b u} h1 e=>by rw[zm h1,zm (zA e hp)];exact e
 have sm:zP (L2.upd (L2.upd H p (.lst ws)) a (.ins C dx (yK f (.ref p) vs))) c vs=zP H c vs:=q5.same fun l ws _ e1=>kpp (fun z=>by subst z;rw[he] at e1;cases e1) e1
 have t1:TbT F (L2.upd H p (.lst ws)):=R.rv.tt.step (fun _ _ e=>.inl e) (fun b o e _=>by rw[zm (zA e hp)];exact e) (wq fun _ z=>nomatch z)
 refine R.objset hi ha he (Same.refl F) (fun b o e=>?_) (t1.ins he') (fun b u h1 _ e=>.of (kpp h1 e)) (fun b o e=>.inl e) ⟨C,dx,yK f (.ref p) vs,zo,q3,q4,?_,kpp hd q6,ZW ho (by rw[sm];exact q7) (by rw[sm];exact hpl)⟩ fun l hl=>?_
 ·have:b≠a:=fun z=>by subst z;rw[q3] at e;cases e
  exact kpp this (R.rv.fh b o e)
 ·have k1:Flds K F (L2.upd H p (.lst ws)) c fs vs:=q5.keep (Same.refl F) fun l ws' hl e1 e2=>⟨by rw[zm (zA e1 hp)];exact e1,e2⟩
  have k2:=k1.put (f:=f) (d:=.lst ds) (v:=.ref p) (by unfold Fld1;rw[if_pos ho];exact⟨ds,p,ws,rfl,rfl,zo,hFp,r⟩)
  refine k2.keep (Same.refl F) fun l ws' hl e1 e2=>⟨?_,e2⟩
  have:l≠a:=fun z=>by subst z;rw[he'] at e1;cases e1
  rw[zm this];exact e1
 ·rw[Lof.ins zo] at hl
  rcases YR ho hl with z|z
  ·subst z;exact .inr hp
  ·rw[sm] at z;exact .inl z
noncomputable def TC(i:Nat)(c f:Str)(ff:FA):FS:=fun τ=>Fl.of (ff τ) fun ds=>Fl.of (uL τ i c) fun p=>if p.2.length<1000 then .nx (τ.set i (some (.obj p.1 c (xA f (.lst ds) p.2)))) else .no
section
variable{X:Cx}{pos:Pos}{e:Expr}{es:List Expr}{fe:FE}{ff:FA}{C:Addr}{c f x:Str}{i:Nat}
theorem T1{p1 pos':Pos}(hx:PE X (.Name x p1) (yX i))(hC:nsIn X.K mainGlobals c=some (some (.ref C)))(cl:Cls X.K C)(na:NoAttr X.K C f)(he:PDF X e ff)(ho:Tabs.own c f=true:=by rfl)
  (hs:swapsWith e (some (.Attribute (.Name x p1) f pos')) pos.line X.env=pure false:=by rfl):PDS X (.Assign [.Attribute (.Name x p1) f pos'] e pos) (TC i c f ff):=
 PS.imp (WH hx he hs) fun E σ H ⟨B,Z,F,τ,R,h⟩=>⟨F,τ,R.rv,h.of.imp fun ds g p ws F1 H1 x hp r=>by
  have R1:=R.ext x
  refine byc fun zG_=>?_
  obtain⟨n,fs,h1,h2⟩:=ur (X:=X) (Post.of g)
  obtain⟨a,q1,C',dx,vs,q2,q3,q4,q5,q6⟩:=R1.rv.ob.at_ i n c fs h1
  refine zG_ ?_
  rw[hC] at q4
  obtain rfl:C=C':=by cases q4;rfl
  have hpa:p≠a:=fun z=>by subst z;rw[q2] at hp;cases hp
  by_cases z:fs.length<1000
  ·dsimp only at h2
   rw[if_pos z] at h2
   exact⟨_,q1,a,C,dx,vs,rfl,by rw[zm (Ne.symm hpa)];exact q2,cl,na,by rw[← q5.length];exact z,h2 σ F1 _ x.ff (R1.attN h1 q1 q2 ho hp r)⟩
  ·dsimp only at h2
   rw[if_neg z] at h2;exact h2.elim⟩
end
noncomputable def VH(τ:DS)(i:Nat)(c f:Str):Rs (List D):=(vT τ i c).bind fun fs=>match xP f fs with
 | some (.lst ds)=>.ok ds
 |_=>.no
theorem WO{X:Cx}{F H:Hp}{τ:DS}{σ:St}{i:Nat}{c f:Str}{P:List D→Prop}(R:RV X.K F τ σ H)(ho:Tabs.own c f=true)(h:Ok X (VH τ i c f) P) :
  ∃ds a C dx vs l ws,σ[i]?=some (some (.ref a))∧H a=some (.ins C dx vs)∧nsIn X.K mainGlobals c=some (some (.ref C))∧vs.lookup f=some (.ref l)∧H l=some (.lst ws)∧F l=none∧Reps X.K F ds ws∧P ds:=by
 refine byc fun zG_=>?_
 obtain⟨fs,a,C,dx,vs,h1,h2,h3,h4,h5⟩:=Yq R h.bind
 refine zG_ ?_
 have l:=h4.look (f:=f)
 cases q:xP f fs with
 |none=>rw[q] at h5;exact h5.elim
 |some d=>
  rw[q] at h5 l
  refine byc fun zG_=>?_
  obtain⟨v,l1,l2⟩:=l
  unfold Fld1 at l2
  rw[if_pos ho] at l2
  obtain⟨ds,p,ws,rfl,rfl,e3,e4,e5⟩:=l2
  refine zG_ ?_
  exact⟨ds,a,C,dx,vs,p,ws,h1,h2,h3,l1,e3,e4,e5,h5⟩
noncomputable def omO(τ:DS)(i:Nat)(c f:Str):Rs (Nat×Fs×List D):=(uL τ i c).bind fun p=>match xP f p.2 with
 | some (.lst ds)=>.ok (p.1,p.2,ds)
 |_=>.no
structure OmW(K:Frag)(F H:Hp)(τ:DS)(σ:St)(i:Nat)(c f:Str)(P:Nat×Fs×List D→Prop)(n:Nat)(fs:Fs)(ds:List D)(a C dx:Addr)(vs:List (Str×V))(l:Addr)(ws:List V):Prop where
 b1:τ[i]?=some (some (.obj n c fs))
 b2:σ[i]?=some (some (.ref a))
 b3:H a=some (.ins C dx vs)
 b4:nsIn K mainGlobals c=some (some (.ref C))
 b5:vs.lookup f=some (.ref l)
 b6:H l=some (.lst ws)
 b7:F l=none
 b8:Reps K F ds ws
 b9:P (n,fs,ds)
theorem zf5{X:Cx}{F H:Hp}{τ:DS}{σ:St}{i:Nat}{c f:Str}{P:Nat×Fs×List D→Prop}(R:RV X.K F τ σ H)(ho:Tabs.own c f=true)(h:Ok X (omO τ i c f) P) :
  ∃n fs ds a C dx vs l ws,OmW X.K F H τ σ i c f P n fs ds a C dx vs l ws:=by
 refine byc fun zG_=>?_
 obtain⟨n,fs,h1,h2⟩:=ur (X:=X) h.bind
 obtain⟨a,q1,C,dx,vs,q2,q3,q4,q5,q6⟩:=R.ob.at_ i n c fs h1
 refine zG_ ?_
 have l:=q5.look (f:=f)
 dsimp only at h2
 cases q:xP f fs with
 |none=>rw[q] at h2;exact h2.elim
 |some d=>
  rw[q] at h2 l
  refine byc fun zG_=>?_
  obtain⟨v,l1,l2⟩:=l
  unfold Fld1 at l2
  rw[if_pos ho] at l2
  obtain⟨ds,p,ws,rfl,rfl,e3,e4,e5⟩:=l2
  refine zG_ ?_
  exact⟨n,fs,ds,a,C,dx,vs,p,ws,h1,q1,q2,q4,l1,e3,e4,e5,h2⟩
theorem RS.attL{K:Frag}{B Z F H:Hp}{τ:DS}{σ:St}{i n:Nat}{c f:Str}{fs:Fs}{a C dx l:Addr}{vs:List (Str×V)}{ds:List D}{ws ws':List V}(R:RS K B Z F τ σ H)(hi:τ[i]?=some (some (.obj n c fs)))(ha:σ[i]?=some (some (.ref a)))(he:H a=some (.ins C dx vs))(ho:Tabs.own c f=true)(hl:vs.lookup f=some (.ref l))(hw:H l=some (.lst ws))(hF:F l=none)(r:Reps K F ds ws') :
  RS K B Z F (τ.set i (some (.obj n c (xA f (.lst ds) fs)))) σ (L2.upd H l (.lst ws')):=by
 refine byc fun zG_=>?_
 obtain⟨a',q1,C',dx',vs',q2,q3,q4,q5,q6,q7⟩:=R.rv.ob.at_ i n c fs hi
 refine zG_ ?_
 rw[ha] at q1;cases q1
 rw[he] at q2;cases q2
 have hin:=jg (H:=H) ho hl
 obtain⟨u1,u2⟩:=q5.updL ho r q7 hl
 have hal:a≠l:=fun z=>by subst z;rw[he] at hw;cases hw
 have hdl:dx≠l:=fun z=>by subst z;rw[q6] at hw;cases hw
 have he':L2.upd H l (.lst ws') a=some (.ins C dx vs):=by rw[zm hal];exact he
 refine R.objset hi ha he (Same.refl F) (fun b o e=>?_) (R.rv.tt.step (fun _ _ e=>.inl e) (fun b o e m=>?_) (wq fun _ z=>nomatch z)) (fun b u _ h2 e=>.of ?_) (fun b o e=>.inl e) ⟨C,dx,vs,he',q3,q4,u1,by rw[zm hdl];exact q6,by rw[u2];exact q7⟩ fun l' hl'=>.inl (by rw[Lof.ins he',u2] at hl';exact hl')
 ·have:b≠l:=fun z=>by subst z;rw[hF] at e;cases e
  rw[zm this];exact R.rv.fh b o e
 ·have:b≠l:=fun z=>by subst z;rw[hw] at e;cases e;exact m _ rfl
  rw[zm this];exact e
 ·have:b≠l:=fun z=>by subst z;exact h2 hin
  rw[zm this];exact e
section
variable{X:Cx}{pos:Pos}{e:Expr}{es:List Expr}{fe:FE}{ff:FA}{C:Addr}{c f x:Str}{i:Nat}
theorem uF{p1 p2:Pos}(hx:PE X (.Name x p1) (yX i))(hb:attributeBase (.Name x p1) f X.env (eval (.Name x p1) X.env)=eval (.Name x p1) X.env:=by rfl):PE X (.Attribute (.Name x p1) f p2) (tFld X.K (yX i) f):=GR hx hb
noncomputable def U3(i:Nat)(c f:Str)(fi:FE):FE:=fun τ=>(VH τ i c f).bind fun ds=>(fi τ).bind fun k=>match k with
 |.int k=>match atI ds k with
  |some d=>.ok d
  |none=>.no
 |_=>.no
theorem T7{p1 p2:Pos}{ix:Expr}{fi:FE}(hx:PE X (.Name x p1) (yX i))(hC:nsIn X.K mainGlobals c=some (some (.ref C)))(cl:Cls X.K C)(na:NoAttr X.K C f)(hi:PDE X ix fi)(ho:Tabs.own c f=true:=by rfl)(hs:vo ix:=by intro _ _;rfl):PDE X (.Subscript (.Attribute (.Name x p1) f p2) ix pos) (U3 i c f fi):=
 PE.imp (ZU ix_list (uF hx) hi hs) fun σ H Q z_=>by
  refine byc fun zG_=>?_
  obtain⟨F,τ,R,h⟩:=z_
  obtain⟨ds,a,C',dx,vs,l,ws,h1,h2,h3,h4,h5,h6,h7,h8⟩:=WO R ho (Ok.bind h)
  refine zG_ ?_
  obtain rfl:C=C':=by rw[hC] at h3;cases h3;rfl
  refine⟨_,h1,a,C,dx,vs,.ref l,rfl,h2,cl,na,h4,?_⟩
  refine tE.of R h8.bind fun k w F2 H2 g2 x2 R2 r2=>?_
  cases k with
  |int k=>
   simp only[Rep] at r2
   simp only at g2
   cases q:atI ds k with
   |none=>rw[q] at g2;exact g2.elim
   |some d=>
    rw[q] at g2
    obtain⟨v,z1,z2⟩:=Zs h7 q
    exact⟨l,ws,k,v,rfl,r2,SqL.of (x2.hh _ _ h5),z1,g2 v F2 H2 x2 (z2.mono x2.ff)⟩
  |_=>exact g2.elim
noncomputable def Ua(i:Nat)(c f:Str):FE:=fun τ=>(VH τ i c f).bind fun ds=>.ok (.int ds.length)
theorem G2{p1 p2 p:Pos}(hx:PE X (.Name x p1) (yX i))(hC:nsIn X.K mainGlobals c=some (some (.ref C)))(cl:Cls X.K C)(na:NoAttr X.K C f)(hg:Gl X "len")(hm:X.mg "len" = none)(ho:Tabs.own c f=true:=by rfl)
  (he:starEach [.Attribute (.Name x p1) f p2] X.env=[(false,eval (.Attribute (.Name x p1) f p2) X.env)]:=by rfl) (hpl:(backTo pos (starEach [] X.env)).any (·.1)=false:=by rfl):PDE X (.Call (.Name "len" p) [.Attribute (.Name x p1) f p2] [] pos) (Ua i c f):=
 PE.imp (pe_callB call_len_seq hg hm PySem.boot_len (xI (uF hx) wK (by rw[he];rfl)) (he:=by rw[he];rfl) (hpl:=hpl)) fun σ H Q z_=>by
  refine byc fun zG_=>?_
  obtain⟨F,τ,R,h⟩:=z_
  obtain⟨ds,a,C',dx,vs,l,ws,h1,h2,h3,h4,h5,h6,h7,h8⟩:=WO R ho (Ok.bind h)
  refine zG_ ?_
  obtain rfl:C=C':=by rw[hC] at h3;cases h3;rfl
  refine⟨_,h1,a,C,dx,vs,.ref l,rfl,h2,cl,na,h4,l,ws,rfl,.inl (SqL.of h5),?_⟩
  rw[← h7.length]
  exact h8 (.int ds.length) F H (Ext.refl R.fh) (by simp only[Rep])
noncomputable def Vt(i:Nat)(c f:Str)(fe:FE):FS:=fun τ=>Fl.of (omO τ i c f) fun p=>Fl.of (fe τ) fun d=>if p.2.2.length<sizeLine then .nx (τ.set i (some (.obj p.1 c (xA f (.lst (p.2.2++[d])) p.2.1)))) else .no
theorem GZ{p1 p2 apos cpos:Pos}(hx:PE X (.Name x p1) (yX i))(hC:nsIn X.K mainGlobals c=some (some (.ref C)))(cl:Cls X.K C)(na:NoAttr X.K C f)(he:PDE X e fe)(ho:Tabs.own c f=true:=by rfl)
  (hfew:((backTo cpos (starEach [e] X.env)).all (fun x=>!x.1)&&(backToKw cpos (keywordEach [] X.env)).all (fun x=>x.1.isSome)
   && decide ([e].length+([]:List Keyword).length+(if ([]:List Keyword).isEmpty then 0 else 1)<30))=true:=by rfl)
  (hline:(apos.endLine==cpos.line)=true:=by rfl) (hs:starEach [e] X.env=[(false,eval e X.env)]:=by rfl) (hplain:(backTo cpos (starEach [] X.env)).any (·.1)=false:=by rfl)
  (hbase:attributeBase (.Attribute (.Name x p1) f p2) "append" X.env (eval (.Attribute (.Name x p1) f p2) X.env)=eval (.Attribute (.Name x p1) f p2) X.env:=by rfl)
  (hsw:swapsWith (.Call (.Attribute (.Attribute (.Name x p1) f p2) "append" apos) [e] [] cpos) none pos.line X.env=pure false:=by rfl) :
  PDS X (.Expr (.Call (.Attribute (.Attribute (.Name x p1) f p2) "append" apos) [e] [] cpos) pos) (Vt i c f fe):=
 PS.imp (ja (Jx PySem.F.plainAttrs_list PySem.F.slot_list_append PySem.F.type_list_append ua (uF hx) (xI he wK (by rw[hs];rfl)) hbase hfew hline (by rw[hs];rfl) hplain) hsw) fun E σ H z_=>by
  refine byc fun zG_=>?_
  obtain⟨B,Z,F,τ,R,h⟩:=z_
  obtain⟨n,fs,ds,a,C',dx,vs,l,ws,h0,h1,h2,h3,h4,h5,h6,h7,h8⟩:=zf5 R.rv ho (Post.of h)
  refine zG_ ?_
  obtain rfl:C=C':=by rw[hC] at h3;cases h3;rfl
  refine⟨_,h1,a,C,dx,vs,.ref l,rfl,h2,cl,na,h4,.inl ⟨rfl,ws,SqL.of h5⟩,?_⟩
  refine tE.at R (Post.of h8) fun d v F1 H1 g x R1 r=>?_
  have hF1:F1 l=none:=by
   cases q:F1 l with
   |none=>rfl
   |some w=>
    rcases x.nw l w q with z|z
    ·rw[h6] at z;cases z
    ·rw[h5] at z;cases z
  by_cases z:ds.length<sizeLine
  ·dsimp only at g
   rw[if_pos z] at g
   refine⟨l,ws,v,rfl,rfl,x.hh _ _ h5,by rw[← h7.length];exact z,?_⟩
   exact g _ F1 _ x.ff (R1.attL h0 h1 (x.hh _ _ h2) ho h4 (x.hh _ _ h5) hF1 ((h7.mono x.ff).append (Reps.cons r Reps.nil)))
  ·dsimp only at g
   rw[if_neg z] at g;exact g.elim
end
structure zl1(F B F' H':Hp):Prop where
 ff:Same F F'
 hh:Hh B H'
 fh:Same F' H'
 nw:∀a o,F' a=some o→F a=some o∨B a=none
 tt:TbT F' H'
theorem RS.outO{K:Frag}{B Z F H:Hp}{τ:DS}{σ:St}(R:RS K B Z F τ σ H):zl1 Z B F H:=⟨R.zf,R.bh,R.rv.fh,R.nb,R.rv.tt⟩
noncomputable def vL(H:Hp)(c:Str)(a:Addr):Hp:=fun b=>if b=a∨b∈Lof H c a then none else H b
theorem JW(H:Hp)(c:Str)(a:Addr):vL H c a a=none:=if_pos (.inl rfl)
theorem LG{H:Hp}{c:Str}{a l:Addr}(h:l∈Lof H c a):vL H c a l=none:=if_pos (.inr h)
theorem Zd{H:Hp}{c:Str}{a b:Addr}(h1:b≠a)(h2:b∉Lof H c a):vL H c a b=H b:=if_neg fun z=>z.elim h1 h2
theorem Xd{H:Hp}{c:Str}{a b:Addr}{o:HO}(h:vL H c a b=some o):H b=some o:=by
 unfold vL at h
 split at h
 ·cases h
 ·exact h
theorem jI{H:Hp}{c:Str}{a b:Addr}(h:vL H c a b=none):b=a∨b∈Lof H c a∨H b=none:=by
 unfold vL at h
 split at h
 ·rename_i z;exact z.elim .inl fun z=>.inr (.inl z)
 ·exact .inr (.inr h)
noncomputable def spM(K:Frag)(c:Str)(j n:Nat)(g:Fs→List D→Rs (D×Fs)):Sp:=fun vs H Q E=>vs.length=n+1∧∃a us1 us2 ds1 ds2 fs F,vs=us1 ++ .ref a::us2∧us1.length=j∧Vh K F H c fs a∧Same F H∧TbT F H∧Reps K F ds1 us1∧Reps K F ds2 us2∧match g fs (ds1++ds2) with
 | .ok (d,fs')=>∀v F' H',zl1 F (vL H c a) F' H'→Vh K F' H' c fs' a→(∀l∈Lof H' c a,l∈Lof H c a∨H l=none)→Rep K F' d v→Q v H'
 |_=>False
noncomputable def spR(K:Frag)(c:Str)(j n:Nat)(g:Fs→List D→Rs D):Sp:=fun vs H Q E=>vs.length=n+1∧∃a us1 us2 ds1 ds2 fs F C dx ws,vs=us1 ++ .ref a::us2∧us1.length=j∧H a=some (.ins C dx ws)∧nsIn K mainGlobals c=some (some (.ref C))∧Flds K F H c fs ws∧Same F H∧TbT F H∧Reps K F ds1 us1∧Reps K F ds2 us2∧match g fs (ds1++ds2) with
 |.ok d=>Ev K F H Q d
 |_=>False
theorem RS.meth{K:Frag}{B Z F H F' H':Hp}{τ:DS}{σ:St}{i n:Nat}{c:Str}{fs fs':Fs}{a:Addr}(R:RS K B Z F τ σ H)(hi:τ[i]?=some (some (.obj n c fs)))(ha:σ[i]?=some (some (.ref a)))(x:zl1 F (vL H c a) F' H')(o:Vh K F' H' c fs' a)(nw:∀l∈Lof H' c a,l∈Lof H c a∨H l=none) :
  RS K B Z F' (τ.set i (some (.obj n c fs'))) σ H':=by
 refine byc fun zG_=>?_
 obtain⟨a',q1,C,dx,vs,he,_⟩:=R.rv.ob.at_ i n c fs hi
 refine zG_ ?_
 rw[ha] at q1;cases q1
 have hL:Lof H c a=zP H c vs:=Lof.ins he
 refine R.objset hi ha he x.ff x.fh x.tt (fun b u h1 h2 e=>x.hh b u (by rw[Zd h1 (by rw[hL];exact h2)];exact e)) (fun b u e=>?_) o fun l hl=>by rw[← hL];exact nw l hl
 rcases x.nw b u e with z|z
 ·exact .inl z
 ·rcases jI z with z|z|z
  ·exact .inr (.inr (.inl z))
  ·exact .inr (.inr (.inr (by rw[← hL];exact z)))
  ·exact .inr (.inl z)
noncomputable def wA(s0:Sl)(j N:Nat)(ds:List D):DS:=(ds.take j).map (fun d=>some (.val d))++some s0::((ds.drop j).map (fun d=>some (.val d))++List.replicate (N-(ds.length+1)) none)
noncomputable def jL(s0:Sl)(ds1 ds2:List D)(N:Nat):DS:=ds1.map (fun d=>some (.val d))++some s0::(ds2.map (fun d=>some (.val d))++List.replicate (N-(ds1.length+ds2.length+1)) none)
omit [Tabs] in
theorem XX{s0:Sl}{j N:Nat}{ds1 ds2:List D}(h:ds1.length=j):wA s0 j N (ds1++ds2)=jL s0 ds1 ds2 N:=by
 unfold wA jL
 subst h
 rw[List.take_left,List.drop_left,length_append]
omit [Tabs] in
theorem Xs{s0:Sl}{N:Nat}{ds1 ds2:List D}{i:Nat}{o:Sl}(h:(jL s0 ds1 ds2 N)[i]?=some (some o)):(i=ds1.length∧o=s0)∨(∃d,ds1[i]?=some d∧o=.val d)∨∃k d,i=ds1.length+1+k∧ds2[k]?=some d∧o=.val d:=by
 unfold jL at h
 by_cases h1:i<ds1.length
 ·rw[getElem?_append_left (by simpa using h1),getElem?_map] at h
  cases e:ds1[i]? with
  |none=>rw[e] at h;cases h
  |some d=>rw[e] at h;cases h;exact .inr (.inl ⟨d,rfl,rfl⟩)
 ·rw[getElem?_append_right (by simpa using h1),length_map] at h
  cases e:i-ds1.length with
  |zero=>rw[e] at h;simp at h;exact .inl ⟨by lia,h.symm⟩
  |succ k=>
   rw[e,getElem?_cons_succ] at h
   by_cases h2:k<ds2.length
   ·rw[getElem?_append_left (by simpa using h2),getElem?_map] at h
    cases e2:ds2[k]? with
    |none=>rw[e2] at h;cases h
    |some d=>rw[e2] at h;cases h;exact .inr (.inr ⟨k,d,by lia,e2,rfl⟩)
   ·rw[getElem?_append_right (by simpa using h2),getElem?_replicate] at h
    split at h <;> cases h
theorem X3{K:Frag}{F H B:Hp}{N:List Str}{ds1 ds2:List D}{us1 us2:List V}{a:Addr}{s0:Sl}(hs:UU (some s0)=true)(fh:Same F H)(tt:TbT F H)(r1:Reps K F ds1 us1)(r2:Reps K F ds2 us2)
  (h1:∀n c fs,s0=.obj n c fs→Vh K F H c fs a∧B=vL H c a) (h2:∀c fs,s0=.obr c fs→(∃C dx vs,H a=some (.ins C dx vs)∧nsIn K mainGlobals c=some (some (.ref C))∧Flds K F H c fs vs)) (hb:Hh B H) (hnb:∀b o,B b=some o→H b=some o) (h3:∀c fs,s0=.obr c fs→B=H) :
  RS K B F F (jL s0 ds1 ds2 N.length) (L2.start N (us1 ++ .ref a::us2)) H:=by
 have hl1:=r1.length
 have hl2:=r2.length
 have s1:∀{i:Nat} {v:V},us1[i]?=some v→(L2.start N (us1 ++ .ref a::us2))[i]?=some (some v):=fun {i v} q=>by
  have hi:i<us1.length:=(List.getElem?_eq_some_iff.mp q).1
  unfold L2.start
  rw[getElem?_append_left (by simp;lia),getElem?_map,getElem?_append_left hi,q];rfl
 have s2:∀{k:Nat} {v:V},us2[k]?=some v→(L2.start N (us1 ++ .ref a::us2))[us1.length+1+k]?=some (some v):=fun {k v} q=>by
  have hi:k<us2.length:=(List.getElem?_eq_some_iff.mp q).1
  unfold L2.start
  rw[getElem?_append_left (by simp;lia),getElem?_map,getElem?_append_right (by lia),show us1.length+1+k-us1.length=k+1 by lia,getElem?_cons_succ,q];rfl
 have s0':(L2.start N (us1 ++ .ref a::us2))[ds1.length]?=some (some (.ref a)):=by
  unfold L2.start
  rw[getElem?_append_left (by simp;lia),getElem?_map,getElem?_append_right (by lia),hl1];simp
 have only:∀{i:Nat} {o:Sl},UU (some o)=true→(jL s0 ds1 ds2 N.length)[i]?=some (some o)→i=ds1.length∧o=s0:=fun {i o} ho h=>by
  rcases Xs h with e|⟨d,_,e⟩|⟨k,d,_,_,e⟩
  ·exact e
  ·subst e;cases ho
  ·subst e;cases ho
 have onlyS:∀{i:Nat} {c:Str},ObS (jL s0 ds1 ds2 N.length)[i]? c→i=ds1.length:=fun {i c} h=>by
  rcases h with ⟨n,fs,h⟩|⟨fs,h⟩
  ·exact(only rfl h).1
  ·exact(only rfl h).1
 have noown:∀{i:Nat} {es:List D},(jL s0 ds1 ds2 N.length)[i]?=some (some (.own es))→False:=fun {i es} h=>by
  rcases Xs h with ⟨_,e⟩|⟨d,_,e⟩|⟨k,d,_,_,e⟩
  ·rw[← e] at hs;cases hs
  ·cases e
  ·cases e
 refine⟨⟨fh,?_,fun i d h=>?_,fun i es h=>(noown h).elim,fun i j es es' b _ h1=>(noown h1).elim,tt,⟨fun i n c fs h=>?_,fun i j n c c' fs b hij g1 g2 _ _=>?_,fun i c fs h=>?_,fun i j n c c' fs b b' l hij g1 g2=>?_,fun i j c ds b l _ g2=>(noown g2).elim⟩⟩,hb,Same.refl F,fun a o e=>.inl e,fun i es b g1=>(noown g1).elim,fun i n c fs b g1 g2=>?_,fun a0 dx b1 b2 i n c fs g1=>?_,fun i c fs b g1 g2=>?_⟩
 ·simp[jL,L2.start,hl1,hl2];lia
 ·rcases Xs h with ⟨_,e⟩|⟨d',e1,e⟩|⟨k,d',rfl,e1,e⟩
  ·rw[← e] at hs;cases hs
  ·cases e
   obtain⟨v,q1,q2⟩:=r1.get e1
   exact⟨v,s1 q1,q2⟩
  ·cases e
   obtain⟨v,q1,q2⟩:=r2.get e1
   exact⟨v,by rw[hl1];exact s2 q1,q2⟩
 ·obtain⟨rfl,e⟩:=only rfl h
  exact⟨a,s0',(h1 n c fs e.symm).1⟩
 ·exact hij ((only rfl g1).1.trans (onlyS g2).symm)
 ·refine byc fun zG_=>?_
  obtain⟨rfl,e⟩:=only rfl h
  obtain⟨C,dx,vs,q1,q2,q3⟩:=h2 c fs e.symm
  refine zG_ ?_
  exact⟨a,C,dx,vs,s0',q1,q2,q3⟩
 ·exact absurd ((only rfl g1).1.trans (onlyS g2).symm) hij
 ·obtain⟨rfl,e⟩:=only rfl g1
  rw[s0'] at g2;cases g2
  rw[(h1 n c fs e.symm).2]
  exact⟨JW _ _ _,fun l hl=>LG hl⟩
 ·refine byc fun zG_=>?_
  obtain⟨rfl,e⟩:=only rfl g1
  obtain⟨p1,p2⟩:=h1 (n+1) c fs e.symm
  obtain⟨C,dx',vs,q2⟩:=tt.2 dx a0 (hnb _ _ b1)
  refine zG_ ?_
  by_cases z:a0=a
  ·rw[z];exact s0'
  ·have:a0∉Lof H c a:=fun y=>by
    refine byc fun zG_=>?_
    obtain⟨C2,dx2,vs2,o1,_,_,o4,_⟩:=p1
    rw[Lof.ins o1] at y
    obtain⟨_,ws,q⟩:=o4.own y
    refine zG_ ?_
    rw[q2] at q;cases q
   rw[p2,Zd z this,q2] at b2;cases b2
 ·obtain⟨rfl,e⟩:=only rfl g1
  rw[s0'] at g2;cases g2
  refine byc fun zG_=>?_
  obtain⟨C,dx,vs,q1,q2,q3⟩:=h2 c fs e.symm
  refine zG_ ?_
  rw[h3 c fs e.symm]
  exact⟨C,dx,vs,q1,fun l hl=>(q3.own hl).2⟩
noncomputable def flM(j:Nat)(c:Str):Fl→Rs (D×Fs)
 |.ro d τ=>(uL τ j c).bind fun p=>if p.1=1 then .ok (d,p.2) else .no
 |.nx τ=>(uL τ j c).bind fun p=>if p.1=1 then .ok (.non,p.2) else .no
 |_=>.no
noncomputable def jW(N j:Nat)(c:Str)(fb:FS)(fs:Fs)(ds:List D):Rs (D×Fs):=flM j c (fb (wA (.obj 1 c fs) j N ds))
noncomputable def YF(N j:Nat)(c:Str)(fb:FS)(fs:Fs)(ds:List D):Rs D:=Z2 (fb (wA (.obr c fs) j N ds))
theorem Le{τ:DS}{i n:Nat}{c:Str}{fs:Fs}(h:uL τ i c=.ok (n,fs)):τ[i]?=some (some (.obj n c fs)):=by
 unfold uL at h
 split at h
 ·rename_i m c' gs e
  by_cases z:c'=c
  ·subst z;rw[if_pos rfl] at h;cases h;exact e
  ·rw[if_neg z] at h;cases h
 ·cases h
section
variable{P:Program}{w:World}{K:Frag}{mg:Str→Option Value}{base:Heap}
theorem MR(H:Hp)(c:Str)(a:Addr):Hh (vL H c a) H:=fun b o e=>.of (Xd e)
theorem fnM{x qual c:Str}{st:Stmt}{f:Addr}{fd:FuncData}{N ps:List Str}{k n j:Nat}{fb:FS}(F:Fun K x qual st f fd)(S:zD N ps (zh st))(hn:ps.length=n+1)
  (hbody:∀(cdv:Value) (A:Around) (outer:List Env) (s:Shared) (H:Hp) (E:XK),Room k (A.deeper (envOfC qual (zh st) s.heap.objs.size f cdv)) →
   vC (jo CX0 P w K mg base N qual (zh st) f cdv A outer s H E).nox (zw st) fb):FnOk P w K mg base CX0 (k+1) f fd ps (spM K c j n (jW N.length j c fb)):=by
 refine F.ok S (fun vs H Q E h=>by rw[hn];exact h.1) fun cdv A outer s H vs Q E hr h=>⟨_,hbody cdv A outer s H E hr,?_⟩
 refine byc fun zG_=>?_
 obtain⟨hl,a,us1,us2,ds1,ds2,fs,Fz,rfl,hj,ob,fh,tt,r1,r2,h⟩:=h
 refine zG_ ?_
 have hd1:ds1.length=j:=r1.length.trans hj
 have st:wA (.obj 1 c fs) j N.length (ds1++ds2)=jL (.obj 1 c fs) ds1 ds2 N.length:=XX hd1
 refine⟨vL H c a,Fz,Fz,jL (.obj 1 c fs) ds1 ds2 N.length,X3 rfl fh tt r1 r2 (fun n' c' fs' e=>by cases e;exact⟨ob,rfl⟩) (fun c' fs' e=>by cases e) (MR H c a) (fun b o e=>Xd e) (fun c' fs' e=>by cases e),?_⟩
 refine byc fun zG_=>?_
 obtain⟨C,dx,ws,o1,o2,o3,o4,o5,o6⟩:=ob
 refine zG_ ?_
 have hdx:vL H c a dx=some (.own a):=by
  have n1:dx≠a:=fun z=>by subst z;rw[o1] at o5;cases o5
  have n2:dx∉Lof H c a:=fun z=>by
   rw[Lof.ins o1] at z
   obtain⟨_,ws',q⟩:=o4.own z
   rw[o5] at q;cases q
  rw[Zd n1 n2];exact o5
 have fin:∀{τ:DS} {σ:St} {F' H':Hp} {fs':Fs},uL τ j c=.ok (1,fs')→RS K (vL H c a) Fz F' τ σ H'→Vh K F' H' c fs' a∧∀l∈Lof H' c a,l∈Lof H c a∨H l=none:=fun {τ σ F' H' fs'} q RR=>by
  have z:=Le q
  obtain⟨a',p1,p2⟩:=RR.rv.ob.at_ j 1 c fs' z
  have:=RR.sf a dx hdx (JW _ _ _) j 0 c fs' z
  rw[p1] at this;cases this
  refine⟨p2,fun l hl=>?_⟩
  rcases jI ((RR.oo j 1 c fs' a z p1).2 l hl) with y|y|y
  ·subst y
   refine byc fun zG_=>?_
   obtain⟨C',dx',vs',g1,_,_,g4,_⟩:=p2
   rw[Lof.ins g1] at hl
   obtain⟨_,ws',q⟩:=g4.own hl
   refine zG_ ?_
   rw[g1] at q;cases q
  ·exact .inl y
  ·exact .inr y
 unfold jW at h
 rw[st] at h
 cases q:fb (jL (.obj 1 c fs) ds1 ds2 N.length) with
 |nx τ=>
  rw[q] at h
  cases z:uL τ j c with
  |ok p=>
   obtain⟨m,fs'⟩:=p
   simp only[flM,z,Rs.bind] at h
   by_cases hm:m=1
   ·subst hm
    rw[if_pos rfl] at h
    exact fun σ F' H' ff RR=>h .non F' H' RR.outO (fin z RR).1 (fin z RR).2 (by simp only[Rep])
   ·rw[if_neg hm] at h;exact h.elim
  |ex c=>simp only[flM,z,Rs.bind] at h
  |no=>simp only[flM,z,Rs.bind] at h
 |ro d τ=>
  rw[q] at h
  cases z:uL τ j c with
  |ok p=>
   obtain⟨m,fs'⟩:=p
   simp only[flM,z,Rs.bind] at h
   by_cases hm:m=1
   ·subst hm
    rw[if_pos rfl] at h
    exact fun v σ F' H' ff RR rr=>h v F' H' RR.outO (fin z RR).1 (fin z RR).2 rr
   ·rw[if_neg hm] at h;exact h.elim
  |ex c=>simp only[flM,z,Rs.bind] at h
  |no=>simp only[flM,z,Rs.bind] at h
 |rb d τ=>rw[q] at h;exact h.elim
 |rt d=>rw[q] at h;exact h.elim
 |bk τ=>rw[q] at h;exact h.elim
 |ct τ=>rw[q] at h;exact h.elim
 |ex c=>rw[q] at h;exact h.elim
 |no=>rw[q] at h;exact h.elim
 |rs c τ=>rw[q] at h;exact h.elim
theorem fnR{x qual c:Str}{st:Stmt}{f:Addr}{fd:FuncData}{N ps:List Str}{k n j:Nat}{fb:FS}(F:Fun K x qual st f fd)(S:zD N ps (zh st))(hn:ps.length=n+1)
  (hbody:∀(cdv:Value) (A:Around) (outer:List Env) (s:Shared) (H:Hp) (E:XK),Room k (A.deeper (envOfC qual (zh st) s.heap.objs.size f cdv)) →
   vC (jo CX0 P w K mg base N qual (zh st) f cdv A outer s H E).nox (zw st) fb):FnOk P w K mg base CX0 (k+1) f fd ps (spR K c j n (YF N.length j c fb)):=by
 refine F.ok S (fun vs H Q E h=>by rw[hn];exact h.1) fun cdv A outer s H vs Q E hr h=>⟨_,hbody cdv A outer s H E hr,?_⟩
 refine byc fun zG_=>?_
 obtain⟨hl,a,us1,us2,ds1,ds2,fs,Fz,C,dx,ws,rfl,hj,o1,o2,o3,fh,tt,r1,r2,h⟩:=h
 refine zG_ ?_
 have hd1:ds1.length=j:=r1.length.trans hj
 have st:wA (.obr c fs) j N.length (ds1++ds2)=jL (.obr c fs) ds1 ds2 N.length:=XX hd1
 refine⟨H,Fz,Fz,jL (.obr c fs) ds1 ds2 N.length,X3 rfl fh tt r1 r2 (fun n' c' fs' e=>by cases e) (fun c' fs' e=>by cases e;exact⟨C,dx,ws,o1,o2,o3⟩) (Hh.refl H) (fun _ _ e=>e) (fun _ _ _=>rfl),?_⟩
 unfold YF at h
 rw[st] at h
 cases q:fb (jL (.obr c fs) ds1 ds2 N.length) with
 |nx τ=>rw[q] at h;exact fun σ F' H' ff RR=>h .non F' H' RR.out (by simp only[Rep])
 |rt d=>rw[q] at h;exact fun v F' H' x rr=>h v F' H' x rr
 |ro d τ=>rw[q] at h;exact fun v σ F' H' ff RR rr=>h v F' H' RR.out rr
 |rb d τ=>rw[q] at h;exact h.elim
 |bk τ=>rw[q] at h;exact h.elim
 |ct τ=>rw[q] at h;exact h.elim
 |ex c=>rw[q] at h;exact h.elim
 |no=>rw[q] at h;exact h.elim
 |rs c τ=>rw[q] at h;exact h.elim
end
noncomputable abbrev FOb:=DS→Rs (D×DS)
noncomputable abbrev Xu:=DS→Rs (Bool×DS)
noncomputable def tOb(X:Cx)(f:FOb):TE:=fun σ H Q=>∃B Z F τ,RS X.K B Z F τ σ H∧Ok X (f τ) fun p=>∀v F' H',Same F F'→RS X.K B Z F' p.2 σ H'→Rep X.K F' p.1 v→Q v H'
noncomputable def tObT(X:Cx)(f:Xu):TT:=fun σ H Q=>∃B Z F τ,RS X.K B Z F τ σ H∧Ok X (f τ) fun p=>∀F' H',Same F F'→RS X.K B Z F' p.2 σ H'→Q p.1 H'
noncomputable def Th(X:Cx)(e:Expr)(f:FOb):Prop:=PE X e (tOb X f)
noncomputable def Wu(X:Cx)(e:Expr)(f:Xu):Prop:=PT X e (tObT X f)
noncomputable def Qb(X:Cx)(e:Expr)(f:Xu):Prop:=PW X e (tObT X f)
noncomputable def MetM(P:Program)(w:World)(K:Frag)(mg:Str→Option Value)(base:Heap)(c m:Str)(k n:Nat)(ps:List Str)(g:Fs→List D→Rs (D×Fs)):Prop:=
 ∃C f fd,nsIn K mainGlobals c=some (some (.ref C))∧Cls K C∧jN K C m f∧FnOk P w K mg base CX0 k f fd ps (spM K c 0 n g)∧Binds K fd ps []
noncomputable def MetR(P:Program)(w:World)(K:Frag)(mg:Str→Option Value)(base:Heap)(c m:Str)(k n:Nat)(ps:List Str)(g:Fs→List D→Rs D):Prop:=
 ∃C f fd,nsIn K mainGlobals c=some (some (.ref C))∧Cls K C∧jN K C m f∧FnOk P w K mg base CX0 k f fd ps (spR K c 0 n g)∧Binds K fd ps []
noncomputable def ClsM(P:Program)(w:World)(K:Frag)(mg:Str→Option Value)(base:Heap)(c:Str)(k n:Nat)(ps:List Str)(g:Fs→List D→Rs (D×Fs)):Prop:=
 ∃C f fd,nsIn K mainGlobals c=some (some (.ref C))∧mg c=some (.ref C)∧Mk K C f∧FnOk P w K mg base CX0 k f fd ps (spM K c 0 n g)∧Binds K fd ps []
section
variable{X:Cx}{pos:Pos}{e a b:Expr}{es rest:List Expr}{fe fb:FE}{fs:FA}{c m x:Str}{i k n:Nat}{ps:List Str}{fo:FOb}{ga gb:Xu}
noncomputable def yz(i:Nat)(c m:Str)(g:Fs→List D→Rs D)(fs:FA):FE:=fun τ=>(vT τ i c).bind fun o=>if (xP m o).isNone=true then (fs τ).bind fun ds=>UN (g o ds) else .no
theorem VM{C:Addr}{g:Fs→List D→Rs D}(hC:nsIn X.K mainGlobals c=some (some (.ref C)))(hfs:∀τ ds,fs τ=.ok ds→ds.length=n){σ:St}{H:Hp}{Q:VK}(h:tE X (yz i c m g fs) σ H Q):Jf C m (spR X.K c 0 n g) [] E0 (yX i) (tAs X fs) σ H Q:=by
 refine byc fun zG_=>?_
 obtain⟨F,τ,R,h⟩:=h
 obtain⟨o,a,C',dx,vs,h1,h2,h3,h4,h5⟩:=Yq R h.bind
 refine zG_ ?_
 obtain rfl:C=C':=by rw[hC] at h3;cases h3;rfl
 have l:=h4.look (f:=m)
 cases z:xP m o with
 |some d=>rw[z,if_neg (by simp)] at h5;exact h5.elim
 |none=>
  rw[z] at l h5
  rw[if_pos (by rfl)] at h5
  refine⟨_,h1,a,dx,vs,rfl,h2,l,F,τ,R,?_⟩
  have hb:=h5.bind
  cases q:fs τ with
  |no=>rw[q] at hb;exact hb
  |ex c=>rw[q] at hb;exact hb
  |ok ds=>
   rw[q] at hb
   intro us F1 H1 x r
   rw[append_nil]
   refine⟨by rw[length_cons,← r.length,hfs τ ds q],a,[],us,[],ds,o,F1,C,dx,vs,rfl,rfl,x.hh _ _ h2,h3,h4.keep x.ff fun l ws _ e1 e2=>⟨x.hh _ _ e1,?_⟩,x.fh,x.tt R.tt,Reps.nil,r,?_⟩
   ·cases y:F1 l with
    |none=>rfl
    |some u=>
     rcases x.nw l u y with z|z
     ·rw[e2] at z;cases z
     ·rw[e1] at z;cases z
   show match g o ds with
    |.ok d=>Ev X.K F1 H1 Q d
    |_=>False
   have hb:Ok X (UN (g o ds)) (Ev X.K F H Q):=hb
   cases z:g o ds with
   |ok d=>rw[z] at hb;exact Ev.ext hb x
   |ex c=>rw[z] at hb;exact hb.elim
   |no=>rw[z] at hb;exact hb.elim
theorem je{g:Fs→List D→Rs D}{p1 apos:Pos}{pl:Sem Bool}(M:MetR X.prog X.w X.K X.mg X.base c m k n ps g)(hr:Room k X.A)(hx:PE X (.Name x p1) (yX i))(ha:PDA X (e::es) fs)(hfs:∀τ ds,fs τ=.ok ds→ds.length=n)
  (hst:starEach (e::es) X.env=(false,eval e X.env)::starEach es X.env:=by rfl) (hpl:(backTo pos (starEach es X.env)).any (·.1)=false:=by rfl)
  (ht:eval (.Call (.Attribute (.Name x p1) m apos) (e::es) [] pos) X.env=(do
   let ov ← eval (.Name x p1) X.env
   standAt apos.atName
   let (f,first) ← holding [ov] (getMethod ov m pl)
   callWith pos f first (backTo pos (starEach (e::es) X.env)) (backToKw pos (keywordEach [] X.env))):=by rfl) :
  PDE X (.Call (.Attribute (.Name x p1) m apos) (e::es) [] pos) (yz i c m g fs):=by
 refine byc fun zG_=>?_
 obtain⟨C,f,fd,hC,cl,hm,F,hb⟩:=M
 refine zG_ ?_
 exact PE.imp (Jw hx cl hm F hr hb .nil (E:=E0) j1 ha hst hpl ht) fun σ H Q h=>VM hC hfs h
theorem Mm{σ:St}{H:Hp}{Q:List V→Hp→Prop}(h:tAs X zi σ H Q):Um σ H Q:=by
 refine byc fun zG_=>?_
 obtain⟨F,τ,R,h⟩:=h
 refine zG_ ?_
 exact h [] F H (Ext.refl R.fh) Reps.nil
theorem wc{g:Fs→List D→Rs D}{p1 apos:Pos}{pl:Sem Bool}(M:MetR X.prog X.w X.K X.mg X.base c m k 0 ps g)(hr:Room k X.A)(hx:PE X (.Name x p1) (yX i))
  (ht:eval (.Call (.Attribute (.Name x p1) m apos) [] [] pos) X.env=(do
   let ov ← eval (.Name x p1) X.env
   standAt apos.atName
   let (f,first) ← holding [ov] (getMethod ov m pl)
   callWith pos f first (backTo pos (starEach [] X.env)) (backToKw pos (keywordEach [] X.env))):=by rfl) :
  PDE X (.Call (.Attribute (.Name x p1) m apos) [] [] pos) (yz i c m g zi):=by
 refine byc fun zG_=>?_
 obtain⟨C,f,fd,hC,cl,hm,F,hb⟩:=M
 refine zG_ ?_
 refine PE.imp (Vy hx cl hm F hr hb .nil (E:=E0) j1 ht) fun σ H Q h=>?_
 refine byc fun zG_=>?_
 obtain⟨v,h1,a,dx,vs,h2,h3,h4,h5⟩:=VM (n:=0) hC (fun τ ds h=>by cases h;rfl) h
 refine zG_ ?_
 exact⟨v,h1,a,dx,vs,h2,h3,h4,Mm h5⟩
noncomputable def xV(i:Nat)(c m:Str)(g:Fs→List D→Rs (D×Fs))(fs:FA):FOb:=fun τ=>(uL τ i c).bind fun p=>if (xP m p.2).isNone=true then (fs τ).bind fun ds=>(match g p.2 ds with
 | .ok (d,o')=>.ok (d,τ.set i (some (.obj p.1 c o')))
 |_=>.no) else .no
theorem JG{C:Addr}{g:Fs→List D→Rs (D×Fs)}(hC:nsIn X.K mainGlobals c=some (some (.ref C)))(hfs:∀τ ds,fs τ=.ok ds→ds.length=n){σ:St}{H:Hp}{Q:VK}(h:tOb X (xV i c m g fs) σ H Q):Jf C m (spM X.K c 0 n g) [] E0 (yX i) (tAs X fs) σ H Q:=by
 refine byc fun zG_=>?_
 obtain⟨B,Z,F,τ,R,h⟩:=h
 obtain⟨t,o,h1,h5⟩:=ur (X:=X) h.bind
 dsimp only at h5
 obtain⟨a,q1,C',dx,vs,q2,q3,q4,q5,q6⟩:=R.rv.ob.at_ i t c o h1
 refine zG_ ?_
 obtain rfl:C=C':=by rw[hC] at q4;cases q4;rfl
 have l:=q5.look (f:=m)
 cases z:xP m o with
 |some d=>rw[z,if_neg (by simp)] at h5;exact h5.elim
 |none=>
  rw[z] at l h5
  rw[if_pos (by rfl)] at h5
  refine⟨_,q1,a,dx,vs,rfl,q2,l,F,τ,R.rv,?_⟩
  have hb:=h5.bind
  cases q:fs τ with
  |no=>rw[q] at hb;exact hb
  |ex c=>rw[q] at hb;exact hb
  |ok ds=>
   rw[q] at hb
   intro us F1 H1 x r
   have R1:=R.ext x
   obtain⟨a',p1,ob⟩:=R1.rv.ob.at_ i t c o h1
   obtain rfl:a'=a:=by rw[q1] at p1;cases p1;rfl
   rw[append_nil]
   refine⟨by rw[length_cons,← r.length,hfs τ ds q],a',[],us,[],ds,o,F1,rfl,rfl,ob,x.fh,R1.rv.tt,Reps.nil,r,?_⟩
   rw[nil_append]
   dsimp only [Ok] at hb
   cases z:g o ds with
   |ok p=>
    obtain⟨d,o'⟩:=p
    rw[z] at hb
    exact fun v F' H' xo ob' nw rep=>hb v F' H' (x.ff.trans xo.ff) (R1.meth h1 q1 xo ob' nw) rep
   |ex c=>rw[z] at hb;exact hb.elim
   |no=>rw[z] at hb;exact hb.elim
theorem v7{g:Fs→List D→Rs (D×Fs)}{p1 apos:Pos}{pl:Sem Bool}(M:MetM X.prog X.w X.K X.mg X.base c m k n ps g)(hr:Room k X.A)(hx:PE X (.Name x p1) (yX i))(ha:PDA X (e::es) fs)(hfs:∀τ ds,fs τ=.ok ds→ds.length=n)
  (hst:starEach (e::es) X.env=(false,eval e X.env)::starEach es X.env:=by rfl) (hpl:(backTo pos (starEach es X.env)).any (·.1)=false:=by rfl)
  (ht:eval (.Call (.Attribute (.Name x p1) m apos) (e::es) [] pos) X.env=(do
   let ov ← eval (.Name x p1) X.env
   standAt apos.atName
   let (f,first) ← holding [ov] (getMethod ov m pl)
   callWith pos f first (backTo pos (starEach (e::es) X.env)) (backToKw pos (keywordEach [] X.env))):=by rfl) :
  Th X (.Call (.Attribute (.Name x p1) m apos) (e::es) [] pos) (xV i c m g fs):=by
 refine byc fun zG_=>?_
 obtain⟨C,f,fd,hC,cl,hm,F,hb⟩:=M
 refine zG_ ?_
 exact PE.imp (Jw hx cl hm F hr hb .nil (E:=E0) j1 ha hst hpl ht) fun σ H Q h=>JG hC hfs h
theorem jc{g:Fs→List D→Rs (D×Fs)}{p1 apos:Pos}{pl:Sem Bool}(M:MetM X.prog X.w X.K X.mg X.base c m k 0 ps g)(hr:Room k X.A)(hx:PE X (.Name x p1) (yX i))
  (ht:eval (.Call (.Attribute (.Name x p1) m apos) [] [] pos) X.env=(do
   let ov ← eval (.Name x p1) X.env
   standAt apos.atName
   let (f,first) ← holding [ov] (getMethod ov m pl)
   callWith pos f first (backTo pos (starEach [] X.env)) (backToKw pos (keywordEach [] X.env))):=by rfl) :
  Th X (.Call (.Attribute (.Name x p1) m apos) [] [] pos) (xV i c m g zi):=by
 refine byc fun zG_=>?_
 obtain⟨C,f,fd,hC,cl,hm,F,hb⟩:=M
 refine zG_ ?_
 refine PE.imp (Vy hx cl hm F hr hb .nil (E:=E0) j1 ht) fun σ H Q h=>?_
 refine byc fun zG_=>?_
 obtain⟨v,h1,a,dx,vs,h2,h3,h4,h5⟩:=JG (n:=0) hC (fun τ ds h=>by cases h;rfl) h
 refine zG_ ?_
 exact⟨v,h1,a,dx,vs,h2,h3,h4,Mm h5⟩
noncomputable def G9(gt:FT):Xu:=fun τ=>(gt τ).bind fun b=>.ok (b,τ)
theorem T3{gt:FT}(h:PDT X e gt):Wu X e (G9 gt):=PT.imp h fun σ H Q z_=>by obtain⟨B,Z,F,τ,R,q⟩:=z_;exact tTs.of R.rv q.bind fun b F1 H1 g x _=>g F1 H1 x.ff (R.ext x)
noncomputable def oB(f:FOb):Xu:=fun τ=>(f τ).bind fun p=>match p.1 with
 |.bl b=>.ok (b,p.2)
 |_=>.no
noncomputable def Mg(ga gb:Xu):Xu:=fun τ=>(ga τ).bind fun p=>if p.1=true then .ok (true,p.2) else gb p.2
theorem G0(ha:Wu X a ga):Qb X (.BoolOp .Or [a] pos) ga:=GI ha
theorem T2(ha:Wu X a ga)(hb:Qb X (.BoolOp .Or (b::rest) pos) gb):Qb X (.BoolOp .Or (a::b::rest) pos) (Mg ga gb):=
 PW.imp (za1 ha hb) fun σ H Q ⟨B,Z,F,τ,R,h⟩=>⟨B,Z,F,τ,R,h.bind.imp fun p g F1 H1 f1 R1=>by
  obtain⟨k,τ'⟩:=p
  cases k with
  |false=>rw[if_neg (by simp)] at g ⊢;exact⟨B,Z,F1,τ',R1,g.imp fun p e F' H' f'=>e F' H' (f1.trans f')⟩
  |true=>rw[if_pos rfl] at g ⊢;exact g F1 H1 f1 R1⟩
theorem ze2(h:Qb X e ga):Wu X e ga:=PW.pt h
noncomputable def GB(gc:Xu)(f g:FS):FS:=fun τ=>Fl.of (gc τ) fun p=>if p.1=true then f p.2 else g p.2
theorem T0{s1 s2:List Stmt}{f g:FS}(hc:Wu X e ga)(h1:vC X s1 f)(h2:vC X s2 g):PDS X (.If e s1 s2 pos) (GB ga f g):=
 PS.imp (za2 hc h1 h2) fun E σ H ⟨B,Z,F,τ,R,h⟩=>⟨B,Z,F,τ,R,h.of.imp fun p q F1 H1 f1 R1=>by
  obtain⟨k,τ'⟩:=p
  cases k with
  |true=>rw[if_pos rfl] at q ⊢;exact⟨B,Z,F1,τ',R1,q.same f1⟩
  |false=>rw[if_neg (by simp)] at q ⊢;exact⟨B,Z,F1,τ',R1,q.same f1⟩⟩
noncomputable def x9(fo:FOb):FS:=fun τ=>Fl.of (fo τ) fun p=>.nx p.2
theorem wE(he:Th X e fo)(hs:swapsWith e none pos.line X.env=pure false:=by rfl):PDS X (.Expr e pos) (x9 fo):=
 PS.imp (ja he hs) fun E σ H z_=>by obtain⟨B,Z,F,τ,R,h⟩:=z_;exact⟨B,Z,F,τ,R,h.of.imp fun p q v F1 H1 f1 R1 r=>q σ F1 H1 f1 R1⟩
noncomputable def jU(fe:FE):FS:=fun τ=>Fl.of (fe τ) fun d=>.ro d τ
theorem YM(he:PDE X e fe):PDS X (.Return (some e) pos) (jU fe):=
 PS.imp (WG he) fun E σ H z_=>by obtain⟨B,Z,F,τ,R,h⟩:=z_;exact tE.at R h.of fun d v F1 H1 g x R1 r=>g v σ F1 H1 x.ff R1 r
end
section
variable{X:Cx}{pos:Pos}{e a b:Expr}{es rest:List Expr}{fe fb:FE}{fs f1 f2:FA}{c m x y:Str}{i k n j:Nat}{ps:List Str}{fo:FOb}
end
theorem RS.setObj{K:Frag}{B Z F1 F H1 H:Hp}{τ:DS}{σ:St}{i:Nat}{c:Str}{fs:Fs}{a:Addr}(R1:RS K B Z F1 τ σ H1)(ex:Ext F1 H1 F H)(ob:Vh K F H c fs a)(ha:H1 a=none)(hf:∀l∈Lof H c a,H1 l=none) :
  RS K B Z F (τ.set i (some (.obj 0 c fs))) (σ.set i (some (.ref a))) H:=by
 have R:=R1.ext ex
 have len:=R.rv.len
 have lt:∀{j:Nat} {s:Option Sl},(τ.set i (some (.obj 0 c fs)))[j]?=some s→(i=j∧s=some (.obj 0 c fs)∧(σ.set i (some (.ref a)))[j]?=some (some (.ref a)))∨(i≠j∧τ[j]?=some s∧(σ.set i (some (.ref a)))[j]?=σ[j]?):=fun {j s} h=>by
  by_cases e:i=j
  ·subst e
   have hl:i<τ.length:=by
    rcases lt_or_ge i τ.length with z|z
    ·exact z
    ·rw[List.getElem?_eq_none_iff.mpr (by simpa using z)] at h;cases h
   rw[getElem?_set_self hl] at h;cases h
   exact .inl ⟨rfl,rfl,getElem?_set_self (by rw[← len];exact hl)⟩
  ·rw[getElem?_set_ne e] at h
   exact .inr ⟨e,h,getElem?_set_ne e⟩
 have ltS:∀{j:Nat} {c':Str},ObS (τ.set i (some (.obj 0 c fs)))[j]? c'→(i=j∧c'=c∧(σ.set i (some (.ref a)))[j]?=some (some (.ref a)))∨(i≠j∧ObS τ[j]? c'∧(σ.set i (some (.ref a)))[j]?=σ[j]?):=fun {j c'} h=>by
  rcases h with ⟨m,gs,h⟩|⟨gs,h⟩
  ·rcases lt h with ⟨e,z,q⟩|⟨e,z,q⟩
   ·cases z;exact .inl ⟨e,rfl,q⟩
   ·exact .inr ⟨e,.inl ⟨m,gs,z⟩,q⟩
  ·rcases lt h with ⟨e,z,q⟩|⟨e,z,q⟩
   ·cases z
   ·exact .inr ⟨e,.inr ⟨gs,z⟩,q⟩
 have old:∀{j:Nat} {c':Str} {b:Addr},ObS τ[j]? c'→σ[j]?=some (some (.ref b))→b≠a∧∀l∈Lof H c' b,H1 l≠none:=fun {j c' b} h e=>by
  refine byc fun zG_=>?_
  obtain⟨b',C,dx,vs,gs,h1,h2,h3⟩:=R1.rv.ob.get h
  refine zG_ ?_
  rw[e] at h1;cases h1
  refine⟨fun z=>(by subst z;rw[ha] at h2;cases h2),fun l hl z=>?_⟩
  rw[Lof.ins (ex.hh _ _ h2:H b=some (.ins C dx vs)),h3.same fun l ws _ e1=>ex.hh _ _ e1] at hl
  obtain⟨_,ws,q⟩:=h3.own hl
  rw[z] at q;cases q
 refine⟨⟨R.rv.fh,by simp[len],fun j d h=>?_,fun j ds h=>?_,fun j k ds es b hjk h1 h2 h3 h4=>?_,R.rv.tt,⟨fun j m c1 g h=>?_,fun j k m c1 c2 g1 b hjk h1 h2 h3 h4=>?_,fun j c1 g h=>?_,fun j k m c1 c2 g1 b b' l hjk h1 h2 h3 h4 h5 h6=>?_,fun j k c1 ds b l h1 h2 h3 h4 h5=>?_⟩⟩,R.bh,R.zf,R.nb,fun j ds b h1 h2=>?_,fun j m c1 g b h1 h2=>?_,fun a0 dx b1 b2 j m c1 g h=>?_,fun j c1 g b h1 h2=>?_⟩
 ·rcases lt h with ⟨_,z,_⟩|⟨_,z,q⟩
  ·cases z
  ·rw[q];exact R.rv.val j d z
 ·rcases lt h with ⟨_,z,_⟩|⟨_,z,q⟩
  ·cases z
  ·rw[q];exact R.rv.own j ds z
 ·rcases lt h1 with ⟨_,z,_⟩|⟨_,z1,q1⟩
  ·cases z
  ·rcases lt h2 with ⟨_,z,_⟩|⟨_,z2,q2⟩
   ·cases z
   ·rw[q1] at h3;rw[q2] at h4
    exact R.rv.dis j k ds es b hjk z1 z2 h3 h4
 ·rcases lt h with ⟨_,z,q⟩|⟨_,z,q⟩
  ·cases z;exact⟨a,q,ob⟩
  ·rw[q];exact R.rv.ob.at_ j m c1 g z
 ·rcases lt h1 with ⟨e1,z,q1⟩|⟨_,z1,q1⟩
  ·rw[q1] at h3;cases h3
   rcases ltS h2 with ⟨e2,_,_⟩|⟨_,z2,q2⟩
   ·exact hjk (e1.symm.trans e2)
   ·rw[q2] at h4;exact(old z2 h4).1 rfl
  ·rw[q1] at h3
   rcases ltS h2 with ⟨_,_,q2⟩|⟨_,z2,q2⟩
   ·rw[q2] at h4;cases h4
    exact(old (.inl ⟨m,g1,z1⟩) h3).1 rfl
   ·rw[q2] at h4
    exact R.rv.ob.dis j k m c1 c2 g1 b hjk z1 z2 h3 h4
 ·rcases lt h with ⟨_,z,q⟩|⟨_,z,q⟩
  ·cases z
  ·refine byc fun zG_=>?_
   obtain⟨a',C,dx,vs,r⟩:=R.rv.ob.rd j c1 g z
   refine zG_ ?_
   exact⟨a',C,dx,vs,by rw[q];exact r.1,r.2⟩
 ·rcases lt h1 with ⟨e1,z,q1⟩|⟨_,z1,q1⟩
  ·cases z
   rw[q1] at h3;cases h3
   rcases ltS h2 with ⟨e2,_,_⟩|⟨_,z2,q2⟩
   ·exact hjk (e1.symm.trans e2)
   ·rw[q2] at h4;exact(old z2 h4).2 l h6 (hf l h5)
  ·rw[q1] at h3
   rcases ltS h2 with ⟨_,ec,q2⟩|⟨_,z2,q2⟩
   ·subst ec
    rw[q2] at h4;cases h4
    exact(old (.inl ⟨m,g1,z1⟩) h3).2 l h5 (hf l h6)
   ·rw[q2] at h4
    exact R.rv.ob.ll j k m c1 c2 g1 b b' l hjk z1 z2 h3 h4 h5 h6
 ·rcases lt h2 with ⟨_,z,_⟩|⟨_,z2,q2⟩
  ·cases z
  ·rw[q2] at h4
   rcases ltS h1 with ⟨_,ec,q1⟩|⟨_,z1,q1⟩
   ·subst ec
    rw[q1] at h3;cases h3
    refine byc fun zG_=>?_
    obtain⟨p,ws,g1,g2,_⟩:=R1.rv.own k ds z2
    refine zG_ ?_
    rw[h4] at g1;cases g1
    rw[hf l h5] at g2;cases g2
   ·rw[q1] at h3
    exact R.rv.ob.lo j k c1 ds b l z1 z2 h3 h4 h5
 ·rcases lt h1 with ⟨_,z,_⟩|⟨_,z,q⟩
  ·cases z
  ·rw[q] at h2;exact R.ob j ds b z h2
 ·rcases lt h1 with ⟨_,z,q⟩|⟨_,z,q⟩
  ·cases z
   rw[q] at h2;cases h2
   exact⟨xq R1.bh ha,fun l hl=>xq R1.bh (hf l hl)⟩
  ·rw[q] at h2;exact R.oo j m c1 g b z h2
 ·rcases lt h with ⟨_,z,_⟩|⟨_,z,q⟩
  ·cases z
  ·rw[q];exact R.sf a0 dx b1 b2 j m c1 g z
 ·rcases lt h1 with ⟨_,z,_⟩|⟨_,z,q⟩
  ·cases z
  ·rw[q] at h2;exact R.ro j c1 g b z h2
noncomputable def ZS(i:Nat)(c:Str)(g:Fs→List D→Rs (D×Fs))(fs:FA):FS:=fun τ=>Fl.of (fs τ) fun ds=>match g [] ds with
 | .ok (.non,o)=>.nx (τ.set i (some (.obj 0 c o)))
 |_=>.no
section
variable{X:Cx}{pos:Pos}{e:Expr}{es:List Expr}{fs:FA}{c x:Str}{i k n:Nat}{ps:List Str}
theorem Lp{C:Addr}{g:Fs→List D→Rs (D×Fs)}(hC:nsIn X.K mainGlobals c=some (some (.ref C)))(hfs:∀τ ds,fs τ=.ok ds→ds.length=n){σ:St}{H B Z F:Hp}{τ:DS}{E:XQ}(R:RS X.K B Z F τ σ H)(h:Post X B Z F E (ZS i c g fs τ)) :
  L8 C (spM X.K c 0 n g) [] E0 (tAs X fs) σ H fun v H'=>E.nx (σ.set i (some v)) H':=by
 have hb:=Post.of h
 refine⟨F,τ,R.rv,?_⟩
 cases q:fs τ with
 |no=>rw[q] at hb;exact hb
 |ex c=>rw[q] at hb;exact hb
 |ok ds=>
  rw[q] at hb
  intro us F1 H1 x r y dx hy hdx hne
  have R1:=R.ext x
  have hFy:=zI x.fh hy
  rw[append_nil]
  have hk:∀{b:Addr} {u:HO},H1 b=some u→upd (upd H1 dx (.own y)) y (.ins C dx []) b=some u:=fun {b u} e=>by
   rw[zm (zA e hy),zm (zA e hdx)];exact e
  have hD:upd (upd H1 dx (.own y)) y (.ins C dx []) dx=some (.own y):=by rw[zm hne,zo]
  have hL:Lof (upd (upd H1 dx (.own y)) y (.ins C dx [])) c y=[]:=by rw[Lof.ins zo];rfl
  refine⟨by rw[length_cons,← r.length,hfs τ ds q],y,[],us,[],ds,[],F1,rfl,rfl,⟨C,dx,[],zo,hFy,hC,trivial,hD,by show([]:List Addr).Nodup;exact nodup_nil⟩,fun b u e=>hk (x.fh b u e),⟨fun t ht=>?_,fun d b e=>?_⟩,Reps.nil,r,?_⟩
  ·obtain⟨t1,t2⟩:=R1.rv.tt.1 t ht
   refine⟨t1,?_⟩
   rcases t2 with z|⟨c',z,z2⟩
   ·exact .inl (hk z)
   ·exact .inr ⟨c',hk z,hk z2⟩
  ·by_cases zd:d=dx
   ·subst zd;rw[hD] at e;cases e;exact⟨C,d,[],zo⟩
   ·by_cases zy:d=y
    ·subst zy;rw[zo] at e;cases e
    ·rw[zm zy,zm zd] at e
     refine byc fun zG_=>?_
     obtain⟨C',dx',vs,h⟩:=R1.rv.tt.2 d b e
     refine zG_ ?_
     exact⟨C',dx',vs,hk h⟩
  ·rw[nil_append]
   dsimp only [Ok] at hb
   cases z:g [] ds with
   |ex c=>rw[z] at hb;exact hb.elim
   |no=>rw[z] at hb;exact hb.elim
   |ok p=>
    obtain⟨d,o⟩:=p
    rw[z] at hb
    cases d with
    |non=>
     dsimp only at hb
     intro v F' H' xo ob nw rep
     simp only[Rep] at rep
     refine⟨rep,?_⟩
     have hF':F' y=none:=by obtain⟨_,_,_,_,h,_⟩:=ob;exact h
     have ex:Ext F1 H1 F' H':=⟨xo.ff,Hh.trans (fun b u e=>.of (by rw[Zd (zA e hy) (by rw[hL];simp)];exact hk e)) xo.hh,xo.fh,fun b u e=>by
      rcases xo.nw b u e with z|z
      ·exact .inl z
      ·rcases jI z with z|z|z
       ·subst z;rw[hF'] at e;cases e
       ·rw[hL] at z;cases z
       ·by_cases n:b=y
        ·subst n;rw[zo] at z;cases z
        ·rw[zm n] at z
         by_cases n2:b=dx
         ·subst n2;rw[zo] at z;cases z
         ·rw[zm n2] at z;exact .inr z,fun _=>xo.tt⟩
     refine hb _ F' H' (x.ff.trans xo.ff) (R1.setObj ex ob hy fun l hl=>?_)
     rcases nw l hl with z|z
     ·rw[hL] at z;cases z
     ·by_cases n:l=y
      ·subst n;exact hy
      ·rw[zm n] at z
       by_cases n2:l=dx
       ·subst n2;exact hdx
       ·rw[zm n2] at z;exact z
    |_=>exact hb.elim
theorem VC{g:Fs→List D→Rs (D×Fs)}{p1 pos' cpos:Pos}(M:ClsM X.prog X.w X.K X.mg X.base c k n ps g)(hr:Room (k+1) X.A)(hg:Gl X c)(ha:PDA X (e::es) fs)(hfs:∀τ ds,fs τ=.ok ds→ds.length=n)
  (hN:X.N.Nodup) (hi:X.N[i]?=some x) (hx:Loc X.env.scope x) (hdb:(c==("__debug__" : Str))=false:=by decide) (hst:starEach (e::es) X.env=(false,eval e X.env)::starEach es X.env:=by rfl) (hpl:(backTo cpos (starEach es X.env)).any (·.1)=false:=by rfl)
  (hs:swapsWith (.Call (.Name c p1) (e::es) [] cpos) (some (.Name x pos')) pos.line X.env=pure false:=by rfl) (hf:X.fn x=true∨X.env.scope.names.lookup x=some .local:=by first|exact .inl rfl|exact .inr rfl|assumption) :
  PDS X (.Assign [.Name x pos'] (.Call (.Name c p1) (e::es) [] cpos) pos) (ZS i c g fs):=by
 refine byc fun zG_=>?_
 obtain⟨C,f,fd,hC,hm,M,F,hb⟩:=M
 refine zG_ ?_
 exact PS.imp (WF hN hi hx (TW M F hr hg hm hb .nil (E:=E0) j1 ha hdb hst hpl) hs hf) fun E σ H z_=>by obtain⟨B,Z,F,τ,R,h⟩:=z_;exact Lp hC hfs R h
end
structure ClsAt(K:Frag)(mg:Str→Option Value)(c:Str)(C:Addr):Prop where
 ns:nsIn K mainGlobals c=some (some (.ref C))
 cls:Cls K C
 at_:mg c=some (.ref C)
section
variable{P:Program}{w:World}{K:Frag}{mg:Str→Option Value}{base:Heap}
theorem MetM.mk{c m qual:Str}{C:Addr}{st:Stmt}{f:Addr}{fd:FuncData}{N ps:List Str}{k n:Nat}{fb:FS}(A:ClsAt K mg c C)(hm:jN K C m f)(D:Fun K m qual st f fd)(S:zD N ps (zh st))(hn:ps.length=n+1)
  (hb:∀(kV doc pm:Value) (an:Option Addr) (cdv ct:Value) (us:List Value),us.length=ps.length→bindArgs (fnOf m qual (zF st) (zw st) (zh st) .none kV doc pm an cdv ct) ⟨us,[]⟩=pure (ps.zip us))
  (hbody:∀(cdv:Value) (A:Around) (outer:List Env) (s:Shared) (H:Hp) (E:XK),Room k (A.deeper (envOfC qual (zh st) s.heap.objs.size f cdv)) →
   vC (jo CX0 P w K mg base N qual (zh st) f cdv A outer s H E).nox (zw st) fb):MetM P w K mg base c m (k+1) n ps (jW N.length 0 c fb):=
 ⟨C,f,fd,A.ns,A.cls,hm,fnM D S hn hbody,D.binds hb⟩
theorem MetR.mk{c m qual:Str}{C:Addr}{st:Stmt}{f:Addr}{fd:FuncData}{N ps:List Str}{k n:Nat}{fb:FS}(A:ClsAt K mg c C)(hm:jN K C m f)(D:Fun K m qual st f fd)(S:zD N ps (zh st))(hn:ps.length=n+1)
  (hb:∀(kV doc pm:Value) (an:Option Addr) (cdv ct:Value) (us:List Value),us.length=ps.length→bindArgs (fnOf m qual (zF st) (zw st) (zh st) .none kV doc pm an cdv ct) ⟨us,[]⟩=pure (ps.zip us))
  (hbody:∀(cdv:Value) (A:Around) (outer:List Env) (s:Shared) (H:Hp) (E:XK),Room k (A.deeper (envOfC qual (zh st) s.heap.objs.size f cdv)) →
   vC (jo CX0 P w K mg base N qual (zh st) f cdv A outer s H E).nox (zw st) fb):MetR P w K mg base c m (k+1) n ps (YF N.length 0 c fb):=
 ⟨C,f,fd,A.ns,A.cls,hm,fnR D S hn hbody,D.binds hb⟩
theorem ClsM.mk{c qual:Str}{C:Addr}{st:Stmt}{f:Addr}{fd:FuncData}{N ps:List Str}{k n:Nat}{fb:FS}(A:ClsAt K mg c C)(hm:Mk K C f)(D:Fun K "__init__" qual st f fd)(S:zD N ps (zh st))(hn:ps.length=n+1)
  (hb:∀(kV doc pm:Value) (an:Option Addr) (cdv ct:Value) (us:List Value),us.length=ps.length→bindArgs (fnOf "__init__" qual (zF st) (zw st) (zh st) .none kV doc pm an cdv ct) ⟨us,[]⟩=pure (ps.zip us))
  (hbody:∀(cdv:Value) (A:Around) (outer:List Env) (s:Shared) (H:Hp) (E:XK),Room k (A.deeper (envOfC qual (zh st) s.heap.objs.size f cdv)) →
   vC (jo CX0 P w K mg base N qual (zh st) f cdv A outer s H E).nox (zw st) fb):ClsM P w K mg base c (k+1) n ps (jW N.length 0 c fb):=
 ⟨C,f,fd,A.ns,A.at_,hm,fnM D S hn hbody,D.binds hb⟩
end
noncomputable def ItH(K:Frag)(J:It)(F1 H1:Hp)(ds:List D):Prop:=∀(i:Nat) (F H:Hp),Same F1 F→Same F H→Hh H1 H →
 (ds.length≤i→J.stop i H)∧∀d,ds[i]?=some d→J.go i H∧∀x H',J.yld i H x H'→∃F',Ext F H F' H'∧Rep K F' d x
noncomputable def tIh(X:Cx)(f:FA):TI:=fun σ H R=>∃F τ,RV X.K F τ σ H∧Ok X (f τ) fun ds=>∀J F1 H1,Ext F H F1 H1→ItH X.K J F1 H1 ds→R J H1
noncomputable def zk7(X:Cx)(tg iter:Expr)(f:FA):Prop:=PI X tg iter (tIh X f)
theorem PDI.h{X:Cx}{tg e:Expr}{f:FA}(h:PDI X tg e f):zk7 X tg e f:=PI.imp h fun σ H R z_=>by obtain⟨F,τ,Rv,q⟩:=z_;exact⟨F,τ,Rv,q.imp fun ds g J F1 H1 x io=>g J F1 H1 x fun i F H a b _=>io i F H a b⟩
section
variable{X:Cx}{scope:Scope}{tn fr:List Str}{idx:List Nat}{tg iter elt:Expr}{ifs:List Expr}{pos:Pos}{fi:FA}{set:FG}{ft:FT}{fe:FE}
theorem Xl(so:Wt set){Y:Cx}(hK:Y.K=X.K)(σ:St)(H:Hp)(Q:VK)(h:tFr X (wG tn.length idx fi set ft fe) σ H Q):Jg (w5 tn.length idx) (tIh X fi) (tG Y set) (tTs Y ft) (tE Y fe) σ H Q:=by
 refine byc fun zG_=>?_
 obtain⟨F,τ,R,h⟩:=h
 refine zG_ ?_
 refine⟨F,τ,R,h.bind.imp fun ds gds J F1 H1 x io=>fun acc hacc=>?_⟩
 cases q:vd set ft fe (wP tn.length idx τ) ds with
 |no=>rw[q] at gds;exact gds.elim
 |ex c=>rw[q] at gds;exact gds.elim
 |ok xs=>
  rw[q] at gds
  obtain⟨hz,k⟩:=yE gds
  have R1:=R.ext x
  have hF1:F1 acc=none:=zI x.fh hacc
  refine⟨fun i m σ1 Hc=>m=ds.length-i∧i≤ds.length∧∃F2 Hm τ1 dn rs vs,CWH X.K set ft fe (wP tn.length idx τ) ds xs F1 H1 acc i σ1 Hc F2 Hm τ1 dn rs vs,⟨ds.length,by simp,zero_le _,F1,H1,_,[],xs,[],Ext.refl x.fh,hacc,rfl,Reps.nil,?_,wC _ _ _,fun _=>rfl,q,rfl⟩,?_⟩
  ·exact(Jq tn.length idx R1).free_upd (wC _ _ _) hacc hF1 (.inl hacc)
  rintro i m σ1 Hc ⟨rfl,hi,F2,Hm,τ1,dn,rs,vs,x2,hm,rfl,r2,R2,n2,so2,cl,ex⟩
  obtain⟨i1,i2⟩:=io i F2 _ x2.ff R2.rv.fh (x2.hh.trans (.of (yt hm)))
  by_cases hlt:i<ds.length
  ·have hd:ds.drop i=ds[i]::ds.drop (i+1):=drop_eq_getElem_cons hlt
   rw[hd,vd] at cl
   obtain⟨go,yl⟩:=i2 ds[i] (by simp[hlt])
   refine .inr ⟨go,fun y H' yy=>?_⟩
   obtain⟨F3,x3,r3⟩:=yl y H' yy
   refine⟨F3,τ1,ds[i],by rw[hK];exact(R2.ext x3).rv,by rw[hK];exact r3,?_⟩
   rw[so2]
   cases e1:set ds[i] (wP tn.length idx τ) with
   |no=>rw[e1] at cl;cases cl
   |ex c=>rw[e1] at cl;cases cl
   |ok τ2=>
    rw[e1] at cl
    simp only at cl
    intro σ2 _ RR _
    rw[hK] at RR
    have RR:=RR _ _ (R2.ext x3)
    have n3:=so.no _ _ _ e1 (wC _ _ _)
    have so3:∀d,set d τ2=set d (wP tn.length idx τ):=fun d=>so.ov d _ _ _ e1
    cases e2:ft τ2 with
    |no=>rw[e2] at cl;cases cl
    |ex c=>rw[e2] at cl;cases cl
    |ok b=>
     rw[e2] at cl
     refine⟨F3,τ2,by rw[hK];exact RR.rv,?_⟩
     rw[e2]
     intro F4 H4 x4
     have x34:=x3.trans x4
     cases b with
     |false=>
      simp only at cl
      rw[if_neg (by simp)]
      obtain⟨y1,y2⟩:=uc x2 hm x34
      have ha:H4 acc=some (.lst vs):=x34.hh acc _ zo
      have eH:H4=upd (xu H4 acc) acc (.lst vs):=by
       rw[vY];funext b;unfold upd;split
       ·rename_i z;subst z;exact ha
       ·rfl
      refine⟨ds.length-(i+1),by lia,rfl,hlt,F4,xu H4 acc,τ2,dn,rs,vs,y1,we _ _,eH,r2.mono x34.ff,RR.ext x4,n3,so3,cl,ex⟩
     |true=>
      simp only at cl
      rw[if_pos rfl]
      cases e3:fe τ2 with
      |no=>rw[e3] at cl;cases cl
      |ex c=>rw[e3] at cl;cases cl
      |ok z=>
       rw[e3] at cl
       simp only at cl
       cases e4:vd set ft fe (wP tn.length idx τ) (ds.drop (i+1)) with
       |no=>rw[e4] at cl;cases cl
       |ex c=>rw[e4] at cl;cases cl
       |ok rs'=>
        rw[e4] at cl
        have ers:z::rs'=rs:=by simpa using cl
        refine⟨F4,τ2,by rw[hK];exact(RR.ext x4).rv,?_⟩
        rw[e3]
        intro v F5 H5 x5 r5
        rw[hK] at r5
        have x35:=x34.trans x5
        obtain⟨y1,y2⟩:=uc x2 hm x35
        refine⟨vs,x35.hh acc _ zo,?_,ds.length-(i+1),by lia,rfl,hlt,F5,xu H5 acc,τ2,dn++[z],rs',vs++[v],y1,we _ _,by rw[vY],(r2.mono x35.ff).append (Reps.cons r5 Reps.nil),?_,n3,so3,e4,?_⟩
        ·have:=congrArg List.length ex
         rw[← ers,length_append,length_cons,r2.length] at this
         lia
        ·exact((RR.ext x4).ext x5).free_upd n3 hacc y2 (.inr ⟨_,x35.hh acc _ zo⟩)
        ·rw[ex,← ers,append_assoc];rfl
  ·have e:i=ds.length:=by lia
   subst e
   rw[drop_length,vd] at cl
   cases cl
   rw[append_nil] at ex
   subst ex
   exact .inl ⟨i1 (le_refl _),k acc vs F2 Hm (x.trans x2) hm r2⟩
theorem v8(hb:uA X.env.scope scope=true)(hc:X.calm=true)(hfr:FreeOk scope X.N fr idx)(so:Wt set)(hi:zk7 X tg iter fi)
  (hg:∀s H C fp,PDG (X.comp scope (tn++fr) s H C fp) tg set) (ht:∀s H C fp,Tg (X.comp scope (tn++fr) s H C fp) ifs ft) (he:∀s H C fp,PDE (X.comp scope (tn++fr) s H C fp) elt fe)
  (hs:∀x,foldedSetIterable iter X.env x=pure x:=by intro _;rfl):PDF X (.ListComp elt [⟨tg,iter,ifs,0⟩] scope pos) (wG tn.length idx fi set ft fe):=
 PE.imp (WI (s0:=w5 tn.length idx) (g:=tG (X.comp scope (tn++fr) X.s₀ X.H₀ 0 []) set) (ti:=tTs (X.comp scope (tn++fr) X.s₀ X.H₀ 0 []) ft) (te:=tE (X.comp scope (tn++fr) X.s₀ X.H₀ 0 []) fe)
  (wO hb) hc (fun σ _=>by simp[w5,hfr.len]) (jR hfr) hi hg ht he hs) (Xl so rfl)
theorem Uz{i:Nat}{y:Str}{py spos:Pos}(hN:X.N.Nodup)(hiN:X.N[i]?=some y)(hy:X.env.scope.names.lookup y=some .local)
  (hsw:swapsWith (.ListComp elt [⟨tg,iter,ifs,0⟩] scope pos) (some (.Name y py)) spos.line X.env=pure true)
  (hb:uA X.env.scope scope=true) (hc:X.calm=true) (hfr:FreeOk scope X.N fr idx) (so:Wt set) (hi:zk7 X tg iter fi)
  (hg:∀s H C fp,PDG (X.comp scope (tn++fr) s H C fp) tg set) (ht:∀s H C fp,Tg (X.comp scope (tn++fr) s H C fp) ifs ft) (he:∀s H C fp,PDE (X.comp scope (tn++fr) s H C fp) elt fe)
  (hs:∀x,foldedSetIterable iter X.env x=pure x:=by intro _;rfl):PDS X (.Assign [.Name y py] (.ListComp elt [⟨tg,iter,ifs,0⟩] scope pos) spos) (v4 i (wG tn.length idx fi set ft fe)):=
 PS.imp (TN (s0:=w5 tn.length idx) (g:=tG (X.comp scope (tn++fr) X.s₀ X.H₀ 0 []) set) (ti:=tTs (X.comp scope (tn++fr) X.s₀ X.H₀ 0 []) ft) (te:=tE (X.comp scope (tn++fr) X.s₀ X.H₀ 0 []) fe) hN hiN hy hsw
  (wO hb) hc (fun σ _=>by simp[w5,hfr.len]) (jR hfr) hi hg ht he hs) fun E σ H ⟨B,Z,F,τ,R,h⟩=>by
  refine Xl (X:=X) (tn:=tn) (idx:=idx) (fi:=fi) (ft:=ft) (fe:=fe) so (Y:=X.comp scope (tn++fr) X.s₀ X.H₀ 0 []) rfl σ H (fun x H1=>Zf i x σ H1 E.nx) ⟨F,τ,R.rv,?_⟩
  exact h.of.imp fun ds g p vs F1 H1 x hp r=>g _ F1 _ x.ff ((R.ext x).setO hp r)
end
section
variable{X:Cx}{pos:Pos}{e tg:Expr}{es:List Expr}{fe:FE}{fs:FA}{c f x:Str}{i:Nat}{C:Addr}
theorem itl_h{K:Frag}{F H H1:Hp}{l:Addr}{ds:List D}{ws:List V}{i:Nat}(hl:H1 l=some (.lst ws))(hh:Hh H1 H)(fh:Same F H)(r:Reps K F ds ws) :
  (ds.length≤i→(Itl K l).stop i H)∧∀d,ds[i]?=some d→(Itl K l).go i H∧∀x H',(Itl K l).yld i H x H'→∃F',Ext F H F' H'∧Rep K F' d x:=by
 have q:SqL K H l ws:=SqL.of (hh _ _ hl)
 refine⟨fun h=>⟨ws,q,by rw[← r.length];exact h⟩,fun d hd=>?_⟩
 obtain⟨v,h1,h2⟩:=r.get hd
 refine⟨⟨ws,v,q,h1⟩,fun x H' y=>?_⟩
 obtain⟨e1,y⟩:=y
 subst e1
 have h3:=y ws q
 rw[h1] at h3;cases h3
 exact⟨F,Ext.refl fh,h2⟩
end
section
variable{P:Program}{w:World}{K:Frag}{mg:Str→Option Value}{base:Heap}
end
section
variable{X:Cx}{pos:Pos}{e:Expr}{es:List Expr}{fs:FA}{c c2 m x y:Str}{i k n h_:Nat}{ps:List Str}
noncomputable def QL(op:D→D→Rs D)(fo fo2:FOb):FOb:=fun τ=>(fo τ).bind fun p=>(fo2 p.2).bind fun p2=>(op p.1 p2.1).bind fun z=>.ok (z,p2.2)
theorem Ld{fo fo2:FOb}{r:R2}{op:D→D→Rs D}(hl:∀F H x y dx dy Q,Same F H→Rep X.K F dx x→Rep X.K F dy y→Ok X (op dx dy) (Ev X.K F H Q)→r x y H Q)
  (σ:St) (H:Hp) (Q:VK) (h:tOb X (QL op fo fo2) σ H Q):tOp r (tOb X fo) (tOb X fo2) σ H Q:=by
 refine byc fun zG_=>?_
 obtain⟨B,Z,F,τ,R,h⟩:=h
 refine zG_ ?_
 refine⟨B,Z,F,τ,R,h.bind.imp fun p g v F1 H1 f1 R1 r1=>?_⟩
 refine⟨B,Z,F1,p.2,R1,g.bind.imp fun p2 g2 w F2 H2 f2 R2 r2=>?_⟩
 exact hl F2 H2 v w p.1 p2.1 Q R2.rv.fh (r1.mono f2) r2 (g2.bind.imp fun z gz u F3 H3 x3 r3=>gz u F3 H3 (f1.trans (f2.trans x3.ff)) (R2.ext x3) r3)
theorem Qw{a b:Expr}{fo fo2:FOb}{o:CmpOp}{op:D→D→Rs D}(ho:OpD X (compareOp o) op)(ha:Th X a fo)(hb:Th X b fo2)(hm:behindInMarks o b=false):Wu X (.Compare a [o] [b] pos) (oB (QL op fo fo2)):=by
 obtain⟨r,h1,h2⟩:=ho
 refine(WE h1 ha hb hm).imp fun σ H Q h=>?_
 refine byc fun zG_=>?_
 obtain⟨B,Z,F,τ,R,h⟩:=h
 refine zG_ ?_
 refine Ld h2 σ H _ ⟨B,Z,F,τ,R,h.bind.imp fun p g v F1 H1 f1 R1 r1=>?_⟩
 obtain⟨d,τ'⟩:=p
 cases d with
 |bl k=>simp only[Rep] at r1;exact⟨k,r1,g F1 H1 f1 R1⟩
 |_=>exact g.elim
end
section
variable{X:Cx}{pos:Pos}{e a b:Expr}{es:List Expr}{fe fa fb fi:FE}{C:Addr}{c f x:Str}{i:Nat}
end
omit [Tabs] in
theorem vals_ints:∀{vs:List Value} {ns:List Int},IntsAre vs ns→Vals (ns.map V.int) vs
 |_,_,.nil=>.nil
 |_,_,.cons n t r=>.cons ⟨t,rfl⟩ (vals_ints r)
section
variable{X:Cx}{pins:List (Addr×Obj)}{σ:St}{F H:Hp}{s:Shared}{Q:VK}{E:Value→Shared→Prop}
end
section
variable{X:Cx}{pos:Pos}{C:Addr}{c f x:Str}{i:Nat}
end
open PySem.W
section
variable{P:Program}{w:World}{K:Frag}{mg:Str→Option Value}{base:Heap}
end
noncomputable def flF:Fl→Rs (List D)
 |.rb i τ=>vI τ i
 |_=>.no
theorem G7{τ:DS}{i:Nat}{ds:List D}(h:vI τ i=.ok ds):τ[i]?=some (some (.own ds)):=by
 unfold vI at h
 split at h
 ·cases h;assumption
 ·cases h
section
variable{P:Program}{w:World}{K:Frag}{mg:Str→Option Value}{base:Heap}
end
theorem yh{α:Type}{l:List (Option α)}{i:Nat}{a:α}(h:(l++[none])[i]?=some (some a)):l[i]?=some (some a):=by
 by_cases z:i<l.length
 ·rwa [getElem?_append_left z] at h
 ·rw[getElem?_append_right (by lia)] at h
  cases q:i-l.length with
  |zero=>rw[q] at h;simp at h
  |succ n=>rw[q] at h;simp at h
theorem j2{α:Type}{l:List (Option α)}{i:Nat}{a:α}(h:l[i]?=some (some a)):(l++[none])[i]?=some (some a):=by
 rw[getElem?_append_left (List.getElem?_eq_some_iff.mp h).1];exact h
theorem UF{τ:DS}{i:Nat}{c:Str}(h:ObS (τ++[none])[i]? c):ObS τ[i]? c:=by
 rcases h with ⟨n,fs,h⟩|⟨fs,h⟩
 ·exact .inl ⟨n,fs,yh h⟩
 ·exact .inr ⟨fs,yh h⟩
theorem RS.pad{K:Frag}{B Z F H:Hp}{τ:DS}{σ:St}(R:RS K B Z F τ σ H):RS K B Z F (τ++[none]) (σ++[none]) H:=
 ⟨⟨R.rv.fh,by rw[length_append,length_append,R.rv.len];rfl,fun i d h=>by
   obtain⟨v,h1,h2⟩:=R.rv.val i d (yh h)
   exact⟨v,j2 h1,h2⟩,fun i ds h=>by
   refine byc fun zG_=>?_
   obtain⟨a,vs,h1,h2⟩:=R.rv.own i ds (yh h)
   refine zG_ ?_
   exact⟨a,vs,j2 h1,h2⟩,fun i j ds es a hij h1 h2 h3 h4=>R.rv.dis i j ds es a hij (yh h1) (yh h2) (yh h3) (yh h4),R.rv.tt,
   ⟨fun i n c fs h=>by
    obtain⟨a,h1,h2⟩:=R.rv.ob.at_ i n c fs (yh h)
    exact⟨a,j2 h1,h2⟩,fun i j n c c' fs a hij h1 h2 h3 h4=>R.rv.ob.dis i j n c c' fs a hij (yh h1) (UF h2) (yh h3) (yh h4),fun i c fs h=>by
    refine byc fun zG_=>?_
    obtain⟨a,C,dx,vs,h1,h2⟩:=R.rv.ob.rd i c fs (yh h)
    refine zG_ ?_
    exact⟨a,C,dx,vs,j2 h1,h2⟩,fun i j n c c' fs a a' l hij h1 h2 h3 h4=>R.rv.ob.ll i j n c c' fs a a' l hij (yh h1) (UF h2) (yh h3) (yh h4),fun i j c ds a l h1 h2 h3 h4=>R.rv.ob.lo i j c ds a l (UF h1) (yh h2) (yh h3) (yh h4)⟩⟩,
  R.bh,R.zf,R.nb,fun i ds a h1 h2=>R.ob i ds a (yh h1) (yh h2),fun i n c fs a h1 h2=>R.oo i n c fs a (yh h1) (yh h2),fun a0 dx e1 e2 i n c fs h=>j2 (R.sf a0 dx e1 e2 i n c fs (yh h)),fun i c fs a h1 h2=>R.ro i c fs a (yh h1) (yh h2)⟩
section
variable{X:Cx}{pos:Pos}{e:Expr}{es:List Expr}{fe:FE}{ff:FA}{c m x:Str}{i k n h_:Nat}{ps:List Str}
noncomputable def X1(ff:FA):FS:=fun τ=>Fl.of (ff τ) fun ds=>.rb τ.length (τ++[some (.own ds)])
theorem VB(h:PDF X e ff):PDS X (.Return (some e) pos) (X1 ff):=
 PS.imp (WG h) fun E σ H z_=>by
  refine byc fun zG_=>?_
  obtain⟨B,Z,F,τ,R,h⟩:=z_
  refine zG_ ?_
  refine⟨F,τ,R.rv,(Post.of h).imp fun ds g p vs F1 H1 x hp r=>?_⟩
  have R1:=(((R.ext x).pad).setO (i:=τ.length) hp r)
  have e1:(τ++[none]).set τ.length (some (.own ds))=τ++[some (.own ds)]:=by simp
  have e2:(σ++[none]).set τ.length (some (V.ref p))=σ++[some (.ref p)]:=by rw[R.rv.len];simp
  rw[e1,e2] at R1
  exact g _ _ F1 _ x.ff R1 (by rw[R.rv.len];simp)
end
theorem jh{H:Hp}{c f:Str}{v:V}{l:Addr}(h:l∈yr H c f v):∀{vs:List (Str×V)},vs.lookup f=some v→l∈zP H c vs
 |[],z=>by cases z
 | (g,w)::s,z=>by
  by_cases e:f=g
  ·subst e
   have:w=v:=by simpa[List.lookup] using z
   subst this
   exact ownL_cons.mpr (.inl h)
  ·have hb:(f==g)=false:=beq_eq_false_iff_ne.mpr e
   exact ownL_cons.mpr (.inr (jh h (by simpa[List.lookup,hb] using z)))
theorem Flds.chg{K:Frag}{F H H':Hp}{c f:Str}{d:D}{v:V}(nw:Fld1 K F H' c f d v):∀{fs:Fs} {vs:List (Str×V)},Flds K F H c fs vs→(zP H c vs).Nodup→vs.lookup f=some v →
  (∀l ws,l∈zP H c vs→l∉yr H c f v→H l=some (.lst ws)→H' l=some (.lst ws)) →
  Flds K F H' c (xA f d fs) vs∧(∀l,l∈zP H' c vs→l∈yr H' c f v∨(l∈zP H c vs∧l∉yr H c f v)) ∧
  ((yr H' c f v).Nodup→(∀l∈yr H' c f v,l∈yr H c f v∨l∉zP H c vs)→(zP H' c vs).Nodup)
 |[],[],_,_,e,_=>by cases e
 | (g,x)::t,(g',y)::s,q,nd,e,k=>by
  refine byc fun zG_=>?_
  obtain⟨rfl,q2,q3⟩:=q
  obtain⟨n0,n2,n1⟩:=ownL_nd.mp nd
  refine zG_ ?_
  unfold xA
  by_cases h:g=f
  ·subst h
   rw[if_pos rfl]
   have:y=v:=by simpa[List.lookup] using e
   subst this
   have kk:∀l2 ws2,l2∈zP H c s→H l2=some (.lst ws2)→H' l2=some (.lst ws2):=fun l2 ws2 hl e6=>k l2 ws2 (ownL_cons.mpr (.inr hl)) (fun z=>n1 l2 z hl) e6
   have es:=q3.same kk
   refine⟨⟨rfl,nw,q3.keep (Same.refl F) fun l2 ws2 hl e6 e7=>⟨kk l2 ws2 hl e6,e7⟩⟩,fun l hl=>?_,fun h1 h2=>?_⟩
   ·rcases ownL_cons.mp hl with z|z
    ·exact .inl z
    ·rw[es] at z;exact .inr ⟨ownL_cons.mpr (.inr z),fun y=>n1 l y z⟩
   ·refine ownL_nd.mpr ⟨h1,by rw[es];exact n2,fun l e1 e2=>?_⟩
    rw[es] at e2
    rcases h2 l e1 with z|z
    ·exact n1 l z e2
    ·exact z (ownL_cons.mpr (.inr e2))
  ·rw[if_neg h]
   have hb:(f==g)=false:=beq_eq_false_iff_ne.mpr fun z=>h z.symm
   have e':s.lookup f=some v:=by simpa[List.lookup,hb] using e
   obtain⟨i1,i2,i3⟩:=Flds.chg nw q3 n2 e' fun l ws hl hn e6=>k l ws (ownL_cons.mpr (.inr hl)) hn e6
   have ap:∀l,l∈yr H c g y→l∉yr H c f v:=fun l h1 h2=>n1 l h1 (jh h2 e')
   have kk:∀l2 ws2,l2∈yr H c g y→H l2=some (.lst ws2)→H' l2=some (.lst ws2):=fun l2 ws2 hl e6=>k l2 ws2 (ownL_cons.mpr (.inl hl)) (ap l2 hl) e6
   have es:=q2.same kk
   refine⟨⟨rfl,q2.keep (Same.refl F) fun l2 ws2 hl e6 e7=>⟨kk l2 ws2 hl e6,e7⟩,i1⟩,fun l hl=>?_,fun h1 h2=>?_⟩
   ·rcases ownL_cons.mp hl with z|z
    ·rw[es] at z;exact .inr ⟨ownL_cons.mpr (.inl z),ap l z⟩
    ·rcases i2 l z with w|⟨w1,w2⟩
     ·exact .inl w
     ·exact .inr ⟨ownL_cons.mpr (.inr w1),w2⟩
   ·refine ownL_nd.mpr ⟨by rw[es];exact n0,i3 h1 fun l e1=>?_,fun l e1 e2=>?_⟩
    ·rcases h2 l e1 with z|z
     ·exact .inl z
     ·exact .inr fun y=>z (ownL_cons.mpr (.inr y))
    ·rw[es] at e1
     rcases i2 l e2 with w|⟨w1,_⟩
     ·rcases h2 l w with z|z
      ·exact ap l e1 z
      ·exact z (ownL_cons.mpr (.inl e1))
     ·exact n1 l e1 w1
 |[],_::_,q,_,_,_=>q.elim
 |_::_,[],q,_,_,_=>q.elim
theorem RS.chg{K:Frag}{B Z F H H':Hp}{τ:DS}{σ:St}{i n:Nat}{c f:Str}{fs:Fs}{a C dx:Addr}{vs:List (Str×V)}{d:D}{v:V}(R:RS K B Z F τ σ H)(hi:τ[i]?=some (some (.obj n c fs)))(ha:σ[i]?=some (some (.ref a)))(he:H a=some (.ins C dx vs))(hl:vs.lookup f=some v)
  (kp:∀b u,b∉yr H c f v→H b=some u→H' b=some u) (nw:Fld1 K F H' c f d v) (nd:(yr H' c f v).Nodup) (fr:∀l∈yr H' c f v,l∈yr H c f v∨H l=none) (no:∀b x,H' b=some (.own x)→H b=some (.own x)) :
  RS K B Z F (τ.set i (some (.obj n c (xA f d fs)))) σ H':=by
 refine byc fun zG_=>?_
 obtain⟨a',q1,C',dx',vs',q2,q3,q4,q5,q6,q7⟩:=R.rv.ob.at_ i n c fs hi
 refine zG_ ?_
 rw[ha] at q1;cases q1
 rw[he] at q2;cases q2
 have isl:∀{b:Addr},b∈yr H c f v→F b=none∧∃ws,H b=some (.lst ws):=fun {b} h=>q5.own (jh h hl)
 have nl:∀{b:Addr} {u:HO},H b=some u→(∀ws,u≠.lst ws)→b∉yr H c f v:=fun {b u} e m z=>by
  obtain⟨_,ws,q⟩:=isl z
  rw[e] at q;cases q;exact m _ rfl
 obtain⟨k1,k2,k3⟩:=q5.chg (H':=H') nw q7 hl fun l ws _ hn e=>kp l _ hn e
 have he':H' a=some (.ins C dx vs):=kp a _ (nl he fun _ z=>nomatch z) he
 refine R.objset hi ha he (Same.refl F) (fun b o e=>?_) (R.rv.tt.step (fun _ _ e=>.inl e) (fun b o e m=>kp b o (nl e m) e) no) (fun b u _ h2 e=>.of (kp b u (fun z=>h2 (jh z hl)) e)) (fun b o e=>.inl e) ⟨C,dx,vs,he',q3,q4,k1,kp dx _ (nl q6 fun _ z=>nomatch z) q6,k3 nd fun l h=>?_⟩ fun l h=>?_
 ·refine kp b o (fun z=>?_) (R.rv.fh b o e)
  rw[(isl z).1] at e;cases e
 ·rcases fr l h with z|z
  ·exact .inl z
  ·refine .inr fun y=>?_
   obtain⟨_,ws,q⟩:=q5.own y
   rw[z] at q;cases q
 ·rw[Lof.ins he'] at h
  rcases k2 l h with z|⟨z,_⟩
  ·rcases fr l z with y|y
   ·exact .inl (jh y hl)
   ·exact .inr y
  ·exact .inl z
noncomputable def Y5:List D→Option (List (List D))
 |[]=>some []
 |.lst ds::r=>(Y5 r).map (ds :: ·)
 |_=>none
theorem vq:∀es:List (List D),Y5 (es.map D.lst)=some es:=by
 intro l_
 induction l_ with
 |nil=>
  exact rfl
 |cons e r ih_=>
  show(Y5 (r.map D.lst)).map (e :: ·)=_;rw[ih_];rfl
theorem Inn.len{K:Frag}{F H:Hp}:∀{es:List (List D)} {as:List Addr},Inn K F H es as→es.length=as.length
 |[],[],_=>rfl
 |_::_,_::_,q=>by rw[length_cons,length_cons,Inn.len q.2]
 |[],_::_,q=>q.elim
 |_::_,[],q=>q.elim
theorem Inn.at{K:Frag}{F H:Hp}{ds:List D}:∀{es:List (List D)} {as:List Addr} {k:Nat},Inn K F H es as→es[k]?=some ds→∃b ws,as[k]?=some b∧H b=some (.lst ws)∧F b=none∧Reps K F ds ws
 |[],_,_,_,e=>by simp at e
 |d0::_,b0::_,0,q,e=>by
  refine byc fun zG_=>?_
  obtain⟨⟨ws,e1,e2,e3⟩,_⟩:=q
  refine zG_ ?_
  have:d0=ds:=by simpa using e
  subst this
  exact⟨b0,ws,rfl,e1,e2,e3⟩
 |_::_,_::_,k+1,q,e=>by
  obtain⟨b,ws,h⟩:=Inn.at (k:=k) q.2 (by simpa using e)
  exact⟨b,ws,by simpa using h⟩
 |_::_,[],_,q,_=>q.elim
theorem Inn.chg{K:Frag}{F H:Hp}{ds:List D}{ws:List V}{b:Addr}(r:Reps K F ds ws):∀{es:List (List D)} {as:List Addr} {k:Nat},Inn K F H es as→as.Nodup→as[k]?=some b→Inn K F (upd H b (.lst ws)) (es.set k ds) as
 |[],[],_,_,_,e=>by simp at e
 |_::_,b0::_,0,q,nd,e=>by
  refine byc fun zG_=>?_
  obtain⟨⟨ws0,e1,e2,e3⟩,q⟩:=q
  refine zG_ ?_
  have:b0=b:=by simpa using e
  subst this
  refine⟨⟨ws,zo,e2,r⟩,q.keep (Same.refl F) fun l ws' hl h1 h2=>⟨?_,h2⟩⟩
  have:l≠b0:=fun z=>(nodup_cons.mp nd).1 (by rw[← z];exact hl)
  rw[zm this];exact h1
 |_::_,b0::s,k+1,q,nd,e=>by
  refine byc fun zG_=>?_
  obtain⟨⟨ws0,e1,e2,e3⟩,q⟩:=q
  refine zG_ ?_
  have hb:s[k]?=some b:=by simpa using e
  have:b0≠b:=fun z=>(nodup_cons.mp nd).1 (by rw[z];exact mem_of_getElem? hb)
  exact⟨⟨ws0,by rw[zm this];exact e1,e2,e3⟩,Inn.chg r q (nodup_cons.mp nd).2 hb⟩
 |[],_::_,_,q,_,_=>q.elim
 |_::_,[],_,q,_,_=>q.elim
theorem Inn.app{K:Frag}{F H:Hp}{ds:List D}{ws:List V}{b:Addr}(h1:H b=some (.lst ws))(h2:F b=none)(r:Reps K F ds ws):∀{es:List (List D)} {as:List Addr},Inn K F H es as→Inn K F H (es++[ds]) (as++[b])
 |[],[],_=>⟨⟨ws,h1,h2,r⟩,trivial⟩
 |_::_,_::_,q=>⟨q.1,Inn.app h1 h2 r q.2⟩
 |[],_::_,q=>q.elim
 |_::_,[],q=>q.elim
theorem Inn.pop{K:Frag}{F H:Hp}:∀{es:List (List D)} {as:List Addr},Inn K F H es as→Inn K F H es.dropLast as.dropLast
 |[],[],_=>trivial
 |[_],[_],_=>trivial
 |_::_::_,_::_::_,q=>⟨q.1,Inn.pop q.2⟩
 |[_],_::_::_,q=>q.2.elim
 |_::_::_,[_],q=>q.2.elim
 |[],_::_,q=>q.elim
 |_::_,[],q=>q.elim
noncomputable def XH(τ:DS)(i:Nat)(c f:Str):Rs (List (List D)):=(vT τ i c).bind fun fs=>match xP f fs with
 | some (.lst ds)=>match Y5 ds with
  |some es=>.ok es
  |none=>.no
 |_=>.no
theorem fld2{K:Frag}{F H:Hp}{c f:Str}{d:D}{v:V}(ho:Tabs.own c f=false∧Tabs.own2 c f=true)(h:Fld1 K F H c f d v):Own2 K F H d v:=by
 unfold Fld1 at h
 rw[if_neg (by rw[ho.1];simp),if_pos ho.2] at h;exact h
theorem vS{H:Hp}{c f:Str}{l:Addr}{as:List Addr}(ho:Tabs.own c f=false∧Tabs.own2 c f=true)(h:H l=some (.lst (as.map V.ref))):yr H c f (.ref l)=l::as:=by
 unfold yr;simp only
 rw[if_neg (by rw[ho.1];simp),if_pos ho.2,vt h,v5]
theorem Yr{X:Cx}{F H:Hp}{τ:DS}{σ:St}{i:Nat}{c f:Str}{P:List (List D)→Prop}(R:RV X.K F τ σ H)(ho:Tabs.own c f=false∧Tabs.own2 c f=true)(h:Ok X (XH τ i c f) P) :
  ∃es a C dx vs l as,σ[i]?=some (some (.ref a))∧H a=some (.ins C dx vs)∧nsIn X.K mainGlobals c=some (some (.ref C))∧vs.lookup f=some (.ref l)∧H l=some (.lst (as.map V.ref))∧F l=none∧Inn X.K F H es as∧P es:=by
 refine byc fun zG_=>?_
 obtain⟨fs,a,C,dx,vs,h1,h2,h3,h4,h5⟩:=Yq R h.bind
 refine zG_ ?_
 have l:=h4.look (f:=f)
 cases q:xP f fs with
 |none=>rw[q] at h5;exact h5.elim
 |some d=>
  rw[q] at h5 l
  refine byc fun zG_=>?_
  obtain⟨v,l1,l2⟩:=l
  obtain⟨es,p,as,rfl,rfl,e3,e4,e5⟩:=fld2 ho l2
  refine zG_ ?_
  simp only[vq] at h5
  exact⟨es,a,C,dx,vs,p,as,h1,h2,h3,l1,e3,e4,e5,h5⟩
noncomputable def UR(τ:DS)(i:Nat)(c f:Str):Rs (Nat×Fs×List (List D)):=(uL τ i c).bind fun p=>match xP f p.2 with
 | some (.lst ds)=>match Y5 ds with
  |some es=>.ok (p.1,p.2,es)
  |none=>.no
 |_=>.no
theorem Ys{X:Cx}{F H:Hp}{τ:DS}{σ:St}{i:Nat}{c f:Str}{P:Nat×Fs×List (List D)→Prop}(R:RV X.K F τ σ H)(ho:Tabs.own c f=false∧Tabs.own2 c f=true)(h:Ok X (UR τ i c f) P) :
  ∃n fs es a C dx vs l as,τ[i]?=some (some (.obj n c fs))∧σ[i]?=some (some (.ref a))∧H a=some (.ins C dx vs)∧nsIn X.K mainGlobals c=some (some (.ref C))∧vs.lookup f=some (.ref l)∧H l=some (.lst (as.map V.ref))∧F l=none∧Inn X.K F H es as∧(l::as).Nodup∧P (n,fs,es):=by
 refine byc fun zG_=>?_
 obtain⟨n,fs,h1,h2⟩:=ur (X:=X) h.bind
 obtain⟨a,q1,C,dx,vs,q2,q3,q4,q5,q6,q7⟩:=R.ob.at_ i n c fs h1
 refine zG_ ?_
 have l:=q5.look (f:=f)
 dsimp only at h2
 cases q:xP f fs with
 |none=>rw[q] at h2;exact h2.elim
 |some d=>
  rw[q] at h2 l
  refine byc fun zG_=>?_
  obtain⟨v,l1,l2⟩:=l
  obtain⟨es,p,as,rfl,rfl,e3,e4,e5⟩:=fld2 ho l2
  refine zG_ ?_
  simp only[vq] at h2
  have nd:(p::as).Nodup:=by
   rw[← vS (H:=H) (l:=p) ho e3]
   have go:∀{vs:List (Str×V)},(zP H c vs).Nodup→vs.lookup f=some (.ref p)→(yr H c f (.ref p)).Nodup:=fun {vs}=>by
    induction vs with
    |nil=>intro _ z;cases z
    |cons y s ih=>
     obtain⟨g,w⟩:=y
     intro nd z
     obtain⟨n0,n2,_⟩:=ownL_nd.mp nd
     by_cases e:f=g
     ·subst e
      have:w=.ref p:=by simpa[List.lookup] using z
      subst this;exact n0
     ·have hb:(f==g)=false:=beq_eq_false_iff_ne.mpr e
      exact ih n2 (by simpa[List.lookup,hb] using z)
   exact go q7 l1
  exact⟨n,fs,es,a,C,dx,vs,p,as,h1,q1,q2,q4,l1,e3,e4,e5,nd,h2⟩
theorem RS.chg2{K:Frag}{B Z F H:Hp}{τ:DS}{σ:St}{i n k:Nat}{c f:Str}{fs:Fs}{a C dx l b:Addr}{vs:List (Str×V)}{es:List (List D)}{as:List Addr}{ds:List D}{ws ws':List V}(R:RS K B Z F τ σ H)(ho:Tabs.own c f=false∧Tabs.own2 c f=true)(hi:τ[i]?=some (some (.obj n c fs)))(ha:σ[i]?=some (some (.ref a)))(he:H a=some (.ins C dx vs))(hl:vs.lookup f=some (.ref l))
  (h5:H l=some (.lst (as.map V.ref))) (h6:F l=none) (h7:Inn K F H es as) (nd:(l::as).Nodup) (hb:as[k]?=some b) (hw:H b=some (.lst ws')) (r:Reps K F ds ws) :
  RS K B Z F (τ.set i (some (.obj n c (xA f (.lst ((es.set k ds).map D.lst)) fs)))) σ (upd H b (.lst ws)):=by
 obtain⟨nd1,nd2⟩:=nodup_cons.mp nd
 have hbm:b∈as:=mem_of_getElem? hb
 have hlb:l≠b:=fun z=>nd1 (by rw[z];exact hbm)
 have h5':upd H b (.lst ws) l=some (.lst (as.map V.ref)):=by rw[zm hlb];exact h5
 have e0:=vS ho h5
 have e1:=vS ho h5'
 refine R.chg hi ha he hl (fun x u hx e=>?_) ?_ (by rw[e1];exact nd) (fun x hx=>.inl (by rw[e0];rw[e1] at hx;exact hx)) (wq fun _ z=>nomatch z)
 ·have:x≠b:=fun z=>hx (by rw[e0,z];exact mem_cons_of_mem _ hbm)
  rw[zm this];exact e
 ·unfold Fld1
  rw[if_neg (by rw[ho.1];simp),if_pos ho.2]
  exact⟨es.set k ds,l,as,rfl,rfl,h5',h6,h7.chg r nd2 hb⟩
theorem RS.app2{K:Frag}{B Z F H:Hp}{τ:DS}{σ:St}{i n:Nat}{c f:Str}{fs:Fs}{a C dx l p:Addr}{vs:List (Str×V)}{es:List (List D)}{as:List Addr}{ds:List D}{ws:List V}(R:RS K B Z F τ σ H)(ho:Tabs.own c f=false∧Tabs.own2 c f=true)(hi:τ[i]?=some (some (.obj n c fs)))(ha:σ[i]?=some (some (.ref a)))(he:H a=some (.ins C dx vs))(hl:vs.lookup f=some (.ref l))
  (h5:H l=some (.lst (as.map V.ref))) (h6:F l=none) (h7:Inn K F H es as) (nd:(l::as).Nodup) (hp:H p=none) (r:Reps K F ds ws) :
  RS K B Z F (τ.set i (some (.obj n c (xA f (.lst ((es++[ds]).map D.lst)) fs)))) σ (upd (upd H p (.lst ws)) l (.lst ((as++[p]).map V.ref))):=by
 obtain⟨nd1,nd2⟩:=nodup_cons.mp nd
 have hlp:p≠l:=fun z=>by subst z;rw[hp] at h5;cases h5
 have hpa:p∉as:=fun z=>by
  obtain⟨_,ws',q⟩:=h7.own z
  rw[hp] at q;cases q
 have hFp:=zI R.rv.fh hp
 have h5':upd (upd H p (.lst ws)) l (.lst ((as++[p]).map V.ref)) l=some (.lst ((as++[p]).map V.ref)):=zo
 have e0:=vS ho h5
 have e1:=vS ho h5'
 have kk:∀x u,x≠l→H x=some u→upd (upd H p (.lst ws)) l (.lst ((as++[p]).map V.ref)) x=some u:=fun x u h e=>by rw[zm h,zm (zA e hp)];exact e
 refine R.chg hi ha he hl (fun x u hx e=>kk x u (fun z=>hx (by rw[e0,z];exact mem_cons_self)) e) ?_ ?_ (fun x hx=>?_) ?_
 ·unfold Fld1
  rw[if_neg (by rw[ho.1];simp),if_pos ho.2]
  refine⟨es++[ds],l,as++[p],rfl,rfl,h5',h6,Inn.app (by rw[zm hlp];exact zo) hFp r (h7.keep (Same.refl F) fun x ws' hx y1 y2=>⟨kk x _ (fun z=>nd1 (by rw[← z];exact hx)) y1,y2⟩)⟩
 ·rw[e1]
  refine nodup_cons.mpr ⟨fun z=>?_,List.nodup_append.mpr ⟨nd2,by simp,fun x hx y hy=>by
   have:y=p:=by simpa using hy
   subst this;exact fun z=>hpa (by rw[← z];exact hx)⟩⟩
  rcases mem_append.mp z with z|z
  ·exact nd1 z
  ·exact hlp (by simpa using z:l=p).symm
 ·rw[e1] at hx
  rw[e0]
  rcases mem_cons.mp hx with z|z
  ·exact .inl (by rw[z];exact mem_cons_self)
  ·rcases mem_append.mp z with z|z
   ·exact .inl (mem_cons_of_mem _ z)
   ·have:x=p:=by simpa using z
    exact .inr (by rw[this];exact hp)
 ·exact fun b x e=>wq (o:=.lst ws) (p:=p) (fun _ z=>nomatch z) b x (wq (o:=.lst ((as++[p]).map V.ref)) (p:=l) (fun _ z=>nomatch z) b x e)
theorem RS.pop2{K:Frag}{B Z F H:Hp}{τ:DS}{σ:St}{i n:Nat}{c f:Str}{fs:Fs}{a C dx l:Addr}{vs:List (Str×V)}{es:List (List D)}{as:List Addr}(R:RS K B Z F τ σ H)(ho:Tabs.own c f=false∧Tabs.own2 c f=true)(hi:τ[i]?=some (some (.obj n c fs)))(ha:σ[i]?=some (some (.ref a)))(he:H a=some (.ins C dx vs))(hl:vs.lookup f=some (.ref l))
  (h5:H l=some (.lst (as.map V.ref))) (h6:F l=none) (h7:Inn K F H es as) (nd:(l::as).Nodup) :
  RS K B Z F (τ.set i (some (.obj n c (xA f (.lst (es.dropLast.map D.lst)) fs)))) σ (upd H l (.lst (as.dropLast.map V.ref))):=by
 obtain⟨nd1,nd2⟩:=nodup_cons.mp nd
 have h5':upd H l (.lst (as.dropLast.map V.ref)) l=some (.lst (as.dropLast.map V.ref)):=zo
 have e0:=vS ho h5
 have e1:=vS ho h5'
 have sub:∀x∈as.dropLast,x∈as:=fun x hx=>List.dropLast_subset as hx
 refine R.chg hi ha he hl (fun x u hx e=>?_) ?_ ?_ (fun x hx=>?_) (wq fun _ z=>nomatch z)
 ·have:x≠l:=fun z=>hx (by rw[e0,z];exact mem_cons_self)
  rw[zm this];exact e
 ·unfold Fld1
  rw[if_neg (by rw[ho.1];simp),if_pos ho.2]
  exact⟨es.dropLast,l,as.dropLast,rfl,rfl,h5',h6,h7.pop.keep (Same.refl F) fun x ws' hx y1 y2=>⟨by rw[zm fun z=>nd1 (by rw[← z];exact sub x hx)];exact y1,y2⟩⟩
 ·rw[e1]
  exact nodup_cons.mpr ⟨fun z=>nd1 (sub l z),(List.dropLast_sublist as).nodup nd2⟩
 ·rw[e1] at hx
  rw[e0]
  rcases mem_cons.mp hx with z|z
  ·exact .inl (by rw[z];exact mem_cons_self)
  ·exact .inl (mem_cons_of_mem _ (sub x z))
noncomputable def at2(es:List (List D))(k:Int):Option (Nat×List D):=(ixN es.length k).bind fun j=>(es[j]?).map fun ds=>(j,ds)
theorem Xr{K:Frag}{F H:Hp}{es:List (List D)}{as:List Addr}{k:Int}{j:Nat}{ds:List D}(h7:Inn K F H es as)(h:at2 es k=some (j,ds)) :
  ∃b ws,as[j]?=some b∧atI (as.map V.ref) k=some (.ref b)∧H b=some (.lst ws)∧F b=none∧Reps K F ds ws:=by
 unfold at2 at h
 cases q:ixN es.length k with
 |none=>rw[q] at h;cases h
 |some i=>
  rw[q,Option.bind_some] at h
  cases q2:es[i]? with
  |none=>rw[q2] at h;cases h
  |some e=>
   rw[q2] at h
   cases h
   refine byc fun zG_=>?_
   obtain⟨b,ws,h1,h2,h3,h4⟩:=h7.at q2
   refine zG_ ?_
   refine⟨b,ws,h1,?_,h2,h3,h4⟩
   unfold atI
   rw[length_map,← h7.len,q]
   simp[h1]
section
variable{X:Cx}{pos:Pos}{e ix:Expr}{fe fi:FE}{C:Addr}{c f x:Str}{i:Nat}
noncomputable def Wl(i:Nat)(c f:Str)(fi:FE):FE:=fun τ=>(XH τ i c f).bind fun es=>(fi τ).bind fun k=>match k with
 |.int k=>match at2 es k with
  |some p=>.ok (.int p.2.length)
  |none=>.no
 |_=>.no
theorem VE{p1 p2 p3 p:Pos}(hx:PE X (.Name x p1) (yX i))(hC:nsIn X.K mainGlobals c=some (some (.ref C)))(cl:Cls X.K C)(na:NoAttr X.K C f)(hi:PDE X ix fi)(hg:Gl X "len")(hm:X.mg "len" = none)(ho:Tabs.own c f=false∧Tabs.own2 c f=true)(hs:vo ix:=by intro _ _;rfl)
  (he:starEach [.Subscript (.Attribute (.Name x p1) f p2) ix p3] X.env=[(false,eval (.Subscript (.Attribute (.Name x p1) f p2) ix p3) X.env)]:=by rfl) (hpl:(backTo pos (starEach [] X.env)).any (·.1)=false:=by rfl):PDE X (.Call (.Name "len" p) [.Subscript (.Attribute (.Name x p1) f p2) ix p3] [] pos) (Wl i c f fi):=
 PE.imp (pe_callB call_len_seq hg hm PySem.boot_len (xI (ZU ix_list (uF hx) hi hs) wK (by rw[he];rfl)) (he:=by rw[he];rfl) (hpl:=hpl)) fun σ H Q z_=>by
  refine byc fun zG_=>?_
  obtain⟨F,τ,R,h⟩:=z_
  obtain⟨es,a,C',dx,vs,l,as,h1,h2,h3,h4,h5,h6,h7,h8⟩:=Yr R ho (Ok.bind h)
  refine zG_ ?_
  obtain rfl:C=C':=by rw[hC] at h3;cases h3;rfl
  refine⟨_,h1,a,C,dx,vs,.ref l,rfl,h2,cl,na,h4,?_⟩
  refine tE.of R h8.bind fun k w F2 H2 g2 x2 R2 r2=>?_
  cases k with
  |int k=>
   simp only[Rep] at r2
   simp only at g2
   cases q:at2 es k with
   |none=>rw[q] at g2;exact g2.elim
   |some jd=>
    refine byc fun zG_=>?_
    obtain⟨j,ds⟩:=jd
    rw[q] at g2
    obtain⟨b,ws,z1,z2,z3,z4,z5⟩:=Xr h7 q
    refine zG_ ?_
    refine⟨l,_,k,.ref b,rfl,r2,SqL.of (x2.hh _ _ h5),z2,b,ws,rfl,.inl (SqL.of (x2.hh _ _ z3)),?_⟩
    rw[← z5.length]
    exact g2 (.int ds.length) F2 H2 x2 (by simp only[Rep])
  |_=>exact g2.elim
noncomputable def augF(i:Nat)(c f:Str)(p:Nat×Fs)(τ:DS):D→D→Fl
 |.int a,.int b=>if p.2.length<1000 then .nx (τ.set i (some (.obj p.1 c (xA f (.int (a+b)) p.2)))) else .no
 |_,_=>.no
noncomputable def X2(i:Nat)(c f:Str)(fe:FE):FS:=fun τ=>Fl.of (uL τ i c) fun p=>match xP f p.2 with
 |some d=>Fl.of (fe τ) (augF i c f p τ d)
 |none=>.no
theorem GY{p1 tpos:Pos}(hx:PE X (.Name x p1) (yX i))(hC:nsIn X.K mainGlobals c=some (some (.ref C)))(cl:Cls X.K C)(na:NoAttr X.K C f)(he:PDE X e fe)(ho:Tabs.own c f=false∧Tabs.own2 c f=false) :
  PDS X (.AugAssign (.Attribute (.Name x p1) f tpos) .Add e pos) (X2 i c f fe):=
 PS.imp (X4 hx he MP) fun E σ H z_=>by
  refine byc fun zG_=>?_
  obtain⟨B,Z,F,τ,R,h⟩:=z_
  obtain⟨n,fs,h1,h2⟩:=ur (X:=X) (Post.of h)
  obtain⟨a,q1,C',dx,vs,q2,q3,q4,q5,q6,q7⟩:=R.rv.ob.at_ i n c fs h1
  refine zG_ ?_
  rw[hC] at q4
  obtain rfl:C=C':=by cases q4;rfl
  have l:=q5.look (f:=f)
  dsimp only at h2
  cases q:xP f fs with
  |none=>rw[q] at h2;exact h2.elim
  |some d0=>
   rw[q] at h2 l
   obtain⟨v,l1,l2⟩:=l
   unfold Fld1 at l2
   rw[if_neg (by rw[ho.1];simp),if_neg (by rw[ho.2];simp)] at l2
   refine⟨_,q1,a,C,dx,vs,v,rfl,q2,cl,na,l1,?_⟩
   refine tE.at R (Post.of h2) fun d y F1 H1 g x R1 r=>?_
   unfold augF at g
   cases d0 with
   |int k0=>
    cases d with
    |int k1=>
     simp only[Rep] at r l2
     simp only at g
     by_cases z:fs.length<1000
     ·rw[if_pos z] at g
      exact⟨k0,k1,l2,r,dx,vs,x.hh _ _ q2,by rw[← q5.length];exact z,g σ F1 _ x.ff (R1.attV h1 q1 (x.hh _ _ q2) ho (by simp only[Rep]))⟩
     ·rw[if_neg z] at g;exact g.elim
    |_=>exact g.elim
   |_=>exact g.elim
end
section
variable{X:Cx}{pos:Pos}{e ix:Expr}{fe fi:FE}{ff:FA}{C:Addr}{c f x:Str}{i:Nat}
noncomputable def app2(i:Nat)(c f:Str)(fe:FE)(p:Nat×Fs×List (List D))(τ:DS):D→Fl
 |.int k=>match at2 p.2.2 k with
  |some q=>Fl.of (fe τ) fun d=>if q.2.length<sizeLine then .nx (τ.set i (some (.obj p.1 c (xA f (.lst ((p.2.2.set q.1 (q.2++[d])).map D.lst)) p.2.1)))) else .no
  |none=>.no
 |_=>.no
noncomputable def YD(i:Nat)(c f:Str)(fi fe:FE):FS:=fun τ=>Fl.of (UR τ i c f) fun p=>Fl.of (fi τ) (app2 i c f fe p τ)
theorem VD{p1 p2 p3 apos cpos:Pos}(hx:PE X (.Name x p1) (yX i))(hC:nsIn X.K mainGlobals c=some (some (.ref C)))(cl:Cls X.K C)(na:NoAttr X.K C f)(hi:PDE X ix fi)(he:PDE X e fe)(ho:Tabs.own c f=false∧Tabs.own2 c f=true)(hsx:vo ix:=by intro _ _;rfl)
  (hfew:((backTo cpos (starEach [e] X.env)).all (fun x=>!x.1)&&(backToKw cpos (keywordEach [] X.env)).all (fun x=>x.1.isSome)
   && decide ([e].length+([]:List Keyword).length+(if ([]:List Keyword).isEmpty then 0 else 1)<30))=true:=by rfl)
  (hline:(apos.endLine==cpos.line)=true:=by rfl) (hs:starEach [e] X.env=[(false,eval e X.env)]:=by rfl) (hplain:(backTo cpos (starEach [] X.env)).any (·.1)=false:=by rfl)
  (hbase:attributeBase (.Subscript (.Attribute (.Name x p1) f p2) ix p3) "append" X.env (eval (.Subscript (.Attribute (.Name x p1) f p2) ix p3) X.env)=eval (.Subscript (.Attribute (.Name x p1) f p2) ix p3) X.env:=by rfl)
  (hsw:swapsWith (.Call (.Attribute (.Subscript (.Attribute (.Name x p1) f p2) ix p3) "append" apos) [e] [] cpos) none pos.line X.env=pure false:=by rfl) :
  PDS X (.Expr (.Call (.Attribute (.Subscript (.Attribute (.Name x p1) f p2) ix p3) "append" apos) [e] [] cpos) pos) (YD i c f fi fe):=
 PS.imp (ja (Jx PySem.F.plainAttrs_list PySem.F.slot_list_append PySem.F.type_list_append ua (ZU ix_list (uF hx) hi hsx) (xI he wK (by rw[hs];rfl)) hbase hfew hline (by rw[hs];rfl) hplain) hsw) fun E σ H z_=>by
  refine byc fun zG_=>?_
  obtain⟨B,Z,F,τ,R,h⟩:=z_
  obtain⟨n,fs,es,a,C',dx,vs,l,as,h0,h1,h2,h3,h4,h5,h6,h7,nd,h8⟩:=Ys R.rv ho (Post.of h)
  refine zG_ ?_
  obtain rfl:C=C':=by rw[hC] at h3;cases h3;rfl
  refine⟨_,h1,a,C,dx,vs,.ref l,rfl,h2,cl,na,h4,?_⟩
  refine tE.at R (Post.of h8) fun k w F1 H1 g1 x1 R1 r1=>?_
  cases k with
  |int k=>
   simp only[Rep] at r1
   unfold app2 at g1
   dsimp only at g1
   cases q:at2 es k with
   |none=>rw[q] at g1;exact g1.elim
   |some jd=>
    refine byc fun zG_=>?_
    obtain⟨j,ds⟩:=jd
    rw[q] at g1
    obtain⟨b,ws,z1,z2,z3,z4,z5⟩:=Xr h7 q
    refine zG_ ?_
    refine⟨l,_,k,.ref b,rfl,r1,SqL.of (x1.hh _ _ h5),z2,.inl ⟨rfl,ws,SqL.of (x1.hh _ _ z3)⟩,?_⟩
    refine tE.at R1 (Post.of g1) fun d v F2 H2 g2 x2 R2 r2=>?_
    have x12:=x1.trans x2
    have hF:∀{b:Addr} {u:HO},H b=some u→F b=none→F2 b=none:=fun {b u} y1 y2=>by
     cases q:F2 b with
     |none=>rfl
     |some w=>
      rcases x12.nw b w q with z|z
      ·rw[y2] at z;cases z
      ·rw[y1] at z;cases z
    by_cases z:ds.length<sizeLine
    ·dsimp only at g2
     rw[if_pos z] at g2
     refine⟨b,ws,v,rfl,rfl,x12.hh _ _ z3,by rw[← z5.length];exact z,?_⟩
     exact g2 σ F2 _ x12.ff (R2.chg2 ho h0 h1 (x12.hh _ _ h2) h4 (x12.hh _ _ h5) (hF h5 h6) (h7.keep x12.ff fun y ws' _ y1 y2=>⟨x12.hh _ _ y1,hF y1 y2⟩) nd z1 (x12.hh _ _ z3) ((z5.mono x12.ff).append (Reps.cons r2 Reps.nil)))
    ·dsimp only at g2
     rw[if_neg z] at g2;exact g2.elim
  |_=>exact g1.elim
noncomputable def Jm(i:Nat)(c f:Str):FS:=fun τ=>Fl.of (UR τ i c f) fun p=>if p.2.2=[] then .no else .nx (τ.set i (some (.obj p.1 c (xA f (.lst (p.2.2.dropLast.map D.lst)) p.2.1))))
theorem GV{p1 p2 apos cpos:Pos}(hx:PE X (.Name x p1) (yX i))(hC:nsIn X.K mainGlobals c=some (some (.ref C)))(cl:Cls X.K C)(na:NoAttr X.K C f)(ho:Tabs.own c f=false∧Tabs.own2 c f=true)
  (hbase:attributeBase (.Attribute (.Name x p1) f p2) "pop" X.env (eval (.Attribute (.Name x p1) f p2) X.env)=eval (.Attribute (.Name x p1) f p2) X.env:=by rfl) (hline:(apos.endLine==cpos.line)=true:=by rfl)
  (hsw:swapsWith (.Call (.Attribute (.Attribute (.Name x p1) f p2) "pop" apos) [] [] cpos) none pos.line X.env=pure false:=by rfl) :
  PDS X (.Expr (.Call (.Attribute (.Attribute (.Name x p1) f p2) "pop" apos) [] [] cpos) pos) (Jm i c f):=
 PS.imp (ja (GT PySem.F.plainAttrs_list PySem.F.slot_list_pop PySem.F.type_list_pop zg6 (uF hx) hbase hline) hsw) fun E σ H z_=>by
  refine byc fun zG_=>?_
  obtain⟨B,Z,F,τ,R,h⟩:=z_
  obtain⟨n,fs,es,a,C',dx,vs,l,as,h0,h1,h2,h3,h4,h5,h6,h7,nd,h8⟩:=Ys R.rv ho (Post.of h)
  refine zG_ ?_
  obtain rfl:C=C':=by rw[hC] at h3;cases h3;rfl
  dsimp only at h8
  by_cases z:es=[]
  ·rw[if_pos z] at h8;exact h8.elim
  ·rw[if_neg z] at h8
   have hl:as.length-1<as.length:=by
    have:=h7.len
    have:es.length≠0:=fun y=>z (List.length_eq_zero_iff.mp y)
    lia
   refine⟨_,h1,a,C,dx,vs,.ref l,rfl,h2,cl,na,h4,.inl ⟨rfl,_,SqL.of h5⟩,l,as.map V.ref,.ref as[as.length-1],rfl,rfl,h5,by simp[hl],?_⟩
   rw[← List.map_dropLast]
   exact h8 σ F _ (Same.refl F) (R.pop2 ho h0 h1 h2 h4 h5 h6 h7 nd)
end
theorem jf{H:Hp}{c f:Str}{v:V}{l:Addr}:∀{vs:List (Str×V)},l∈zP H c (yK f v vs)→l∈yr H c f v∨l∈zP H c vs
 |[],h=>ownL_cons.mp h
 | (g,x)::r,h=>by
  rw[show yK f v ((g,x)::r)=(if g=f then (g,v)::r else (g,x)::yK f v r) from rfl] at h
  by_cases z:g=f
  ·rw[if_pos z] at h
   rcases ownL_cons.mp h with e|e
   ·subst z;exact .inl e
   ·exact .inr (ownL_cons.mpr (.inr e))
  ·rw[if_neg z] at h
   rcases ownL_cons.mp h with e|e
   ·exact .inr (ownL_cons.mpr (.inl e))
   ·rcases jf e with e|e
    ·exact .inl e
    ·exact .inr (ownL_cons.mpr (.inr e))
theorem uo{H:Hp}{c f:Str}{v:V}(hv:(yr H c f v).Nodup):∀{vs:List (Str×V)},(zP H c vs).Nodup→(∀l∈yr H c f v,l∉zP H c vs)→(zP H c (yK f v vs)).Nodup
 |[],_,_=>ownL_nd.mpr ⟨hv,(show([]:List Addr).Nodup from nodup_nil),fun _ _ h=>(by cases h)⟩
 | (g,x)::r,h,hp=>by
  rw[show yK f v ((g,x)::r)=(if g=f then (g,v)::r else (g,x)::yK f v r) from rfl]
  obtain⟨h0,h2,h1⟩:=ownL_nd.mp h
  have hp2:∀l∈yr H c f v,l∉zP H c r:=fun l hl z=>hp l hl (ownL_cons.mpr (.inr z))
  by_cases z:g=f
  ·subst z
   rw[if_pos rfl]
   exact ownL_nd.mpr ⟨hv,h2,hp2⟩
  ·rw[if_neg z]
   refine ownL_nd.mpr ⟨h0,uo hv h2 hp2,fun l e1 hm=>?_⟩
   rcases jf hm with e|e
   ·exact hp l e (ownL_cons.mpr (.inl e1))
   ·exact h1 l e1 e
theorem RS.new2{K:Frag}{B Z F H H':Hp}{τ:DS}{σ:St}{i n:Nat}{c f:Str}{fs:Fs}{a C dx p:Addr}{vs:List (Str×V)}{es:List (List D)}{as:List Addr}(R:RS K B Z F τ σ H)(ho:Tabs.own c f=false∧Tabs.own2 c f=true)(hi:τ[i]?=some (some (.obj n c fs)))(ha:σ[i]?=some (some (.ref a)))(he:H a=some (.ins C dx vs))
  (he':H' a=some (.ins C dx (yK f (.ref p) vs))) (kp:∀b u,b≠a→H b=some u→H' b=some u) (hp:H p=none) (has:∀b∈as,H b=none) (h5:H' p=some (.lst (as.map V.ref))) (h7:Inn K F H' es as) (nd:(p::as).Nodup)
  (no:∀b x,H' b=some (.own x)→H b=some (.own x)) :
  RS K B Z F (τ.set i (some (.obj n c (xA f (.lst (es.map D.lst)) fs)))) σ H':=by
 refine byc fun zG_=>?_
 obtain⟨a',q1,C',dx',vs',q2,q3,q4,q5,q6,q7⟩:=R.rv.ob.at_ i n c fs hi
 refine zG_ ?_
 rw[ha] at q1;cases q1
 rw[he] at q2;cases q2
 have hd:dx≠a:=fun z=>by subst z;rw[he] at q6;cases q6
 have hFp:=zI R.rv.fh hp
 have kl:∀l ws,l∈zP H c vs→H l=some (.lst ws)→H' l=some (.lst ws):=fun l ws _ e1=>kp l _ (fun z=>by subst z;rw[he] at e1;cases e1) e1
 have sm:zP H' c vs=zP H c vs:=q5.same kl
 have e1:=vS ho h5
 have nw:∀l∈yr H' c f (.ref p),H l=none:=fun l hl=>by
  rw[e1] at hl
  rcases mem_cons.mp hl with z|z
  ·rw[z];exact hp
  ·exact has l z
 have tt:TbT F H':=⟨fun r hr=>(R.rv.tt.1 r hr).stepI fun b o e m=>kp b o (fun z=>by subst z;rw[he] at e;cases e;exact m _ _ _ rfl) e,fun d b e=>by
  refine byc fun zG_=>?_
  obtain⟨C',dx',vs'',h⟩:=R.rv.tt.2 d b (no d b e)
  refine zG_ ?_
  by_cases z:b=a
  ·subst z;exact⟨C,dx,_,he'⟩
  ·exact⟨C',dx',vs'',kp b _ z h⟩⟩
 refine R.objset hi ha he (Same.refl F) (fun b o e=>?_) tt (fun b u h1 _ e=>.of (kp b u h1 e)) (fun b o e=>.inl e) ⟨C,dx,yK f (.ref p) vs,he',q3,q4,?_,kp dx _ hd q6,uo (by rw[e1];exact nd) (by rw[sm];exact q7) fun l hl z=>?_⟩ fun l hl=>?_
 ·exact kp b o (fun z=>by subst z;rw[q3] at e;cases e) (R.rv.fh b o e)
 ·exact(q5.keep (H':=H') (Same.refl F) fun l ws hl y1 y2=>⟨kl l ws hl y1,y2⟩).put (by unfold Fld1;rw[if_neg (by rw[ho.1];simp),if_pos ho.2];exact⟨es,p,as,rfl,rfl,h5,hFp,h7⟩)
 ·rw[sm] at z
  obtain⟨_,ws,q⟩:=q5.own z
  rw[nw l hl] at q;cases q
 ·rw[Lof.ins he'] at hl
  rcases jf hl with z|z
  ·exact .inr (nw l z)
  ·rw[sm] at z;exact .inl z
section
variable{X:Cx}{pos:Pos}{e ix:Expr}{fe fi:FE}{ff:FA}{C:Addr}{c f x:Str}{i:Nat}
noncomputable def W6(i:Nat)(c f:Str)(fi:FE):FA:=fun τ=>(XH τ i c f).bind fun es=>(fi τ).bind fun k=>match k with
 |.int k=>match at2 es k with
  |some p=>.ok p.2
  |none=>.no
 |_=>.no
theorem Qz{p p1 p2 p3:Pos}(hx:PE X (.Name x p1) (yX i))(hC:nsIn X.K mainGlobals c=some (some (.ref C)))(cl:Cls X.K C)(na:NoAttr X.K C f)(hi:PDE X ix fi)(hg:Gl X "list")(hm:X.mg "list" = none)(ho:Tabs.own c f=false∧Tabs.own2 c f=true)(hs:vo ix:=by intro _ _;rfl)
  (he:starEach [.Subscript (.Attribute (.Name x p1) f p2) ix p3] X.env=[(false,eval (.Subscript (.Attribute (.Name x p1) f p2) ix p3) X.env)]:=by rfl) (hpl:(backTo pos (starEach [] X.env)).any (·.1)=false:=by rfl):PDF X (.Call (.Name "list" p) [.Subscript (.Attribute (.Name x p1) f p2) ix p3] [] pos) (W6 i c f fi):=
 PE.imp (L2.pe_callTy Zm hg hm boot_list (xI (ZU ix_list (uF hx) hi hs) wK (by rw[he];rfl)) (by decide) (by decide) (by rw[he];rfl) hpl) fun σ H Q z_=>by
  refine byc fun zG_=>?_
  obtain⟨F,τ,R,h⟩:=z_
  obtain⟨es,a,C',dx,vs,l,as,h1,h2,h3,h4,h5,h6,h7,h8⟩:=Yr R ho (Ok.bind h)
  refine zG_ ?_
  obtain rfl:C=C':=by rw[hC] at h3;cases h3;rfl
  refine⟨_,h1,a,C,dx,vs,.ref l,rfl,h2,cl,na,h4,?_⟩
  refine tE.of R h8.bind fun k w F2 H2 g2 x2 R2 r2=>?_
  cases k with
  |int k=>
   simp only[Rep] at r2
   simp only at g2
   cases q:at2 es k with
   |none=>rw[q] at g2;exact g2.elim
   |some jd=>
    refine byc fun zG_=>?_
    obtain⟨j,ds⟩:=jd
    rw[q] at g2
    obtain⟨b,ws,z1,z2,z3,z4,z5⟩:=Xr h7 q
    refine zG_ ?_
    exact⟨l,_,k,.ref b,rfl,r2,SqL.of (x2.hh _ _ h5),z2,b,ws,rfl,.inl (SqL.of (x2.hh _ _ z3)),fun p hp=>g2 p ws F2 H2 x2 hp (z5.mono x2.ff)⟩
  |_=>exact g2.elim
noncomputable def Jn(i:Nat)(c f:Str)(ff:FA):FS:=fun τ=>Fl.of (ff τ) fun ds=>Fl.of (uL τ i c) fun p=>if p.2.length<1000 then .nx (τ.set i (some (.obj p.1 c (xA f (.lst [.lst ds]) p.2)))) else .no
theorem GW{p1 p2 pos':Pos}(hx:PE X (.Name x p1) (yX i))(hC:nsIn X.K mainGlobals c=some (some (.ref C)))(cl:Cls X.K C)(na:NoAttr X.K C f)(he:PDF X e ff)(ho:Tabs.own c f=false∧Tabs.own2 c f=true)(hst:starEach [e] X.env=(false,eval e X.env)::starEach [] X.env:=by rfl)
  (hs:swapsWith (.List [e] p2) (some (.Attribute (.Name x p1) f pos')) pos.line X.env=pure false:=by rfl):PDS X (.Assign [.Attribute (.Name x p1) f pos'] (.List [e] p2) pos) (Jn i c f ff):=
 PS.imp (WH hx (Uy (xI he wK hst)) hs) fun E σ H z_=>by
  refine byc fun zG_=>?_
  obtain⟨B,Z,F,τ,R,h⟩:=z_
  refine zG_ ?_
  refine⟨F,τ,R.rv,h.of.imp fun ds g q ws F1 H1 x hq r=>?_⟩
  have R1:=R.ext x
  refine byc fun zG_=>?_
  obtain⟨n,fs,h1,h2⟩:=ur (X:=X) (Post.of g)
  obtain⟨a,q1,C',dx,vs,q2,q3,q4,q5,q6⟩:=R1.rv.ob.at_ i n c fs h1
  refine zG_ ?_
  rw[hC] at q4
  obtain rfl:C=C':=by cases q4;rfl
  have hqa:q≠a:=fun z=>by subst z;rw[q2] at hq;cases hq
  refine⟨le_trans (show 1≤1 from le_refl _) (by rw[sizeLine_eq];decide),fun p hp=>?_⟩
  have hpq:p≠q:=fun z=>by subst z;rw[zo] at hp;cases hp
  have hp1:H1 p=none:=by rw[zm hpq] at hp;exact hp
  have hpa:p≠a:=fun z=>by subst z;rw[q2] at hp1;cases hp1
  have ea:upd (upd H1 q (.lst ws)) p (.lst [.ref q]) a=some (.ins C dx vs):=by rw[zm (Ne.symm hpa),zm (Ne.symm hqa)];exact q2
  dsimp only at h2
  by_cases z:fs.length<1000
  ·rw[if_pos z] at h2
   refine⟨_,q1,a,C,dx,vs,rfl,ea,cl,na,by rw[← q5.length];exact z,h2 σ F1 _ x.ff ?_⟩
   refine R1.new2 (es:=[ds]) (as:=[q]) (p:=p) ho h1 q1 q2 zo (fun b u y1 y2=>?_) hp1 (fun b hb=>?_) ?_ ⟨⟨ws,?_,zI R1.rv.fh hq,r⟩,trivial⟩ ?_ (fun b y e=>?_)
   ·rw[zm y1,zm (zA y2 hp1),zm (zA y2 hq)];exact y2
   ·have:b=q:=by simpa using hb
    rw[this];exact hq
   ·rw[zm hpa];exact zo
   ·rw[zm hqa,zm (Ne.symm hpq)];exact zo
   ·simp[hpq]
   ·exact wq (o:=.lst ws) (p:=q) (fun _ z=>nomatch z) b y (wq (o:=.lst [.ref q]) (p:=p) (fun _ z=>nomatch z) b y (wq (o:=.ins C dx (yK f (.ref p) vs)) (p:=a) (fun _ z=>nomatch z) b y e))
  ·rw[if_neg z] at h2;exact h2.elim
end
noncomputable def spN(K:Frag)(n:Nat)(g:List D→Rs (List D)):Sp:=fun vs H Q E=>vs.length=n∧∃ds F,Same F H∧TbT F H∧Reps K F ds vs∧match g ds with
 |.ok es=>∀p xs F' H',Ext F H F' H'→H' p=none→Reps K F' es xs→Q (.ref p) (upd H' p (.lst xs))
 |_=>False
noncomputable def runN(N:Nat)(fb:FS)(ds:List D):Rs (List D):=flF (fb (zX N ds))
section
variable{P:Program}{w:World}{K:Frag}{mg:Str→Option Value}{base:Heap}
theorem fnN{x qual:Str}{st:Stmt}{f:Addr}{fd:FuncData}{N ps:List Str}{k n:Nat}{fb:FS}(F:Fun K x qual st f fd)(S:zD N ps (zh st))(hn:ps.length=n)
  (hbody:∀(cdv:Value) (A:Around) (outer:List Env) (s:Shared) (H:Hp) (E:XK),Room k (A.deeper (envOfC qual (zh st) s.heap.objs.size f cdv)) →
   vC (jo CX0 P w K mg base N qual (zh st) f cdv A outer s H E).nox (zw st) fb):FnOk P w K mg base CX0 (k+1) f fd ps (spN K n (runN N.length fb)):=by
 refine F.ok S (fun vs H Q E h=>by rw[hn];exact h.1) fun cdv A outer s H vs Q E hr h=>⟨_,hbody cdv A outer s H E hr,?_⟩
 refine byc fun zG_=>?_
 obtain⟨hl,ds0,Fz,fh,tt,r,h⟩:=h
 refine zG_ ?_
 refine⟨H,Fz,Fz,zX N.length ds0,YE fh tt r,?_⟩
 unfold runN at h
 cases q:fb (zX N.length ds0) with
 |rb i τ=>
  rw[q] at h
  cases z:vI τ i with
  |ok ds=>
   simp only[flF,z] at h
   have zz:=G7 z
   intro v σ F' H' ff RR e
   refine byc fun zG_=>?_
   obtain⟨p,xs,p1,p2,p3,p4⟩:=RR.rv.own i ds zz
   refine zG_ ?_
   rw[p1] at e;cases e
   have pb:=RR.ob i ds p zz p1
   have x:Ext Fz H F' (xu H' p):=⟨RR.zf,fun c o e=>by
     have n:c≠p:=fun z=>by subst z;rw[pb] at e;cases e
     rw[wk n];exact RR.bh c o e,fun c o e=>by
     have n:c≠p:=fun z=>by subst z;rw[p3] at e;cases e
     rw[wk n];exact RR.rv.fh c o e,RR.nb,fun _=>RR.rv.tt.step (fun _ _ e=>.inl e) (fun c o e n=>by
     have:c≠p:=fun z=>by subst z;rw[p2] at e;cases e;exact n _ rfl
     rw[wk this];exact e) fun d a e=>by
     unfold xu at e
     split at e
     ·cases e
     ·exact e⟩
   have eH:upd (xu H' p) p (.lst xs)=H':=by
    rw[vY];funext b;unfold upd;split
    ·rename_i z;subst z;exact p2.symm
    ·rfl
   have:=h p xs F' (xu H' p) x (we _ _) p4
   rw[eH] at this
   exact this
  |ex c=>simp only[flF,z] at h
  |no=>simp only[flF,z] at h
 |nx τ=>rw[q] at h;exact h.elim
 |rt d=>rw[q] at h;exact h.elim
 |ro d τ=>rw[q] at h;exact h.elim
 |bk τ=>rw[q] at h;exact h.elim
 |ct τ=>rw[q] at h;exact h.elim
 |ex c=>rw[q] at h;exact h.elim
 |no=>rw[q] at h;exact h.elim
 |rs c τ=>rw[q] at h;exact h.elim
noncomputable def DefN(P:Program)(w:World)(K:Frag)(mg:Str→Option Value)(base:Heap)(x:Str)(k n:Nat)(ps:List Str)(g:List D→Rs (List D)):Prop:=
 ∃f fd,FnOk P w K mg base CX0 k f fd ps (spN K n g)∧Binds K fd ps []∧keepIn K (.ref f)=true∧mg x=some (.ref f)
theorem DefN.mk{x:Str}{st:Stmt}{f:Addr}{fd:FuncData}{N ps:List Str}{k n:Nat}{fb:FS}(D:ye K mg x st f fd)(S:zD N ps (zh st))(hn:ps.length=n)
  (hb:∀(kV doc pm:Value) (an:Option Addr) (cdv ct:Value) (us:List Value),us.length=ps.length→bindArgs (fnOf x x (zF st) (zw st) (zh st) .none kV doc pm an cdv ct) ⟨us,[]⟩=pure (ps.zip us))
  (hbody:∀(cdv:Value) (A:Around) (outer:List Env) (s:Shared) (H:Hp) (E:XK),Room k (A.deeper (envOfC x (zh st) s.heap.objs.size f cdv)) →
   vC (jo CX0 P w K mg base N x (zh st) f cdv A outer s H E).nox (zw st) fb):DefN P w K mg base x (k+1) n ps (runN N.length fb):=
 ⟨f,fd,fnN D.fn S hn hbody,D.fn.binds hb,D.fn.kp,D.at_⟩
theorem DefN.ok{x:Str}{k n:Nat}{ps:List Str}{g:List D→Rs (List D)}(M:DefN P w K mg base x k n ps g):DefOk P w K mg base x k n ps (fun ds=>(g ds).bind fun xs=>.ok (.lst xs)):=by
 refine byc fun zG_=>?_
 obtain⟨f,fd,F,h⟩:=M
 refine zG_ ?_
 refine⟨f,fd,F.imp fun vs H Q E h0=>?_,h⟩
 refine byc fun zG_=>?_
 obtain⟨hl,ds,Fz,fh,tt,r,h⟩:=h0
 refine zG_ ?_
 refine⟨hl,ds,Fz,fh,tt,r,?_⟩
 dsimp only at h
 cases q:g ds with
 |ok es=>
  rw[q] at h
  intro p xs F' H' x hp r
  refine h (.ref p) (upd F' p (.lst xs)) _ (x.trans (Ext.new x.fh hp)) ?_
  simp only[Rep]
  exact⟨p,xs,rfl,zo,r.mono (yt (zI x.fh hp))⟩
 |ex c=>rw[q] at h;exact h.elim
 |no=>rw[q] at h;exact h.elim
end
noncomputable def jH(F H:Hp)(L:List Addr):Hp:=fun b=>if b∈L then H b else F b
noncomputable def unl(F1:Hp)(L:List Addr):Hp:=fun b=>if b∈L then none else F1 b
section
variable{K:Frag}{F H F1 H1:Hp}{L:List Addr}
theorem wx{b:Addr}(h:b∈L):jH F H L b=H b:=if_pos h
theorem wM{b:Addr}(h:b∉L):jH F H L b=F b:=if_neg h
theorem Gi{b:Addr}(h:b∈L):unl F1 L b=none:=if_pos h
theorem u8{b:Addr}(h:b∉L):unl F1 L b=F1 b:=if_neg h
noncomputable def Lent(F H:Hp)(L:List Addr):Prop:=∀b∈L,F b=none∧∃ws,H b=some (.lst ws)
theorem Lent.ff(h:Lent F H L):Same F (jH F H L):=fun b o e=>by
 have:b∉L:=fun z=>by rw[(h b z).1] at e;cases e
 rw[wM this];exact e
theorem Lent.fh(h:Lent F H L)(fh:Same F H):Same (jH F H L) H:=fun b o e=>by
 by_cases z:b∈L
 ·rw[wx z] at e;exact e
 ·rw[wM z] at e;exact fh b o e
theorem Lent.tt(h:Lent F H L)(t:TbT F H):TbT (jH F H L) H:=⟨fun r hr=>by
 obtain⟨t1,t2⟩:=t.1 r hr
 refine⟨?_,t2⟩
 have:r.1∉L:=fun z=>by
  obtain⟨_,ws,q⟩:=h _ z
  rcases t2 with e|⟨c,e,_⟩ <;> rw[e] at q <;> cases q
 rw[wM this];exact t1,t.2⟩
theorem Lent.back(h:Lent F H L)(t:TbT F H)(x:Ext (jH F H L) H F1 H1):Ext F H (unl F1 L) H1:=
 ⟨fun b o e=>by
  have:b∉L:=fun z=>by rw[(h b z).1] at e;cases e
  rw[u8 this];exact x.ff _ _ (h.ff b o e),x.hh,fun b o e=>by
  by_cases z:b∈L
  ·rw[Gi z] at e;cases e
  ·rw[u8 z] at e;exact x.fh b o e,fun b o e=>by
  by_cases z:b∈L
  ·rw[Gi z] at e;cases e
  ·rw[u8 z] at e
   rcases x.nw b o e with y|y
   ·rw[wM z] at y;exact .inl y
   ·exact .inr y,fun t=>by
  have t1:=x.tt (h.tt t)
  exact⟨fun r hr=>⟨by
   obtain⟨y1,_⟩:=t1.1 r hr
   unfold unl;split
   ·rfl
   ·exact y1,(t1.1 r hr).2⟩,t1.2⟩⟩
end
mutual
noncomputable def noL:D→Bool
 |.non=>true
 |.bl _=>true
 |.int _=>true
 |.str _=>true
 |.tup ds=>noLs ds
 |_=>false
noncomputable def noLs:List D→Bool
 |[]=>true
 |d::r=>noL d&&noLs r
end
section
variable{K:Frag}{F1:Hp}{L:List Addr}
mutual
theorem Tk(hl:∀b∈L,∃ws,F1 b=some (.lst ws)):∀(d:D) (v:V),noL d=true→Rep K F1 d v→Rep K (unl F1 L) d v
 |.non,v,_,r=>by simp only[Rep] at r ⊢;exact r
 |.bl _,v,_,r=>by simp only[Rep] at r ⊢;exact r
 |.int _,v,_,r=>by simp only[Rep] at r ⊢;exact r
 |.str _,v,_,r=>by simp only[Rep] at r ⊢;exact r
 |.tup ds,v,h,r=>by
  simp only[Rep] at r ⊢
  refine byc fun zG_=>?_
  obtain⟨a,vs,e,q,t⟩:=r
  refine zG_ ?_
  have h:noLs ds=true:=by simpa[noL] using h
  refine⟨a,vs,e,?_,unl_reps hl ds vs h t⟩
  rcases q with (q|⟨o,q⟩) | q
  ·refine .inl (.inl ?_)
   have:a∉L:=fun z=>by obtain⟨ws,y⟩:=hl a z;rw[q] at y;cases y
   rw[u8 this];exact q
  ·refine .inl (.inr ⟨o,?_⟩)
   have:a∉L:=fun z=>by obtain⟨ws,y⟩:=hl a z;rw[q] at y;cases y
   rw[u8 this];exact q
  ·exact .inr q
 |.lst _,v,h,_=>by simp[noL] at h
 |.scr _,v,h,_=>by simp[noL] at h
 |.raw _,v,h,_=>by simp[noL] at h
 |.exc _,v,h,_=>by simp[noL] at h
 |.dct _ _,v,h,_=>by simp[noL] at h
theorem unl_reps(hl:∀b∈L,∃ws,F1 b=some (.lst ws)):∀(ds:List D) (vs:List V),noLs ds=true→Reps K F1 ds vs→Reps K (unl F1 L) ds vs
 |[],vs,_,r=>by simp only[Reps] at r ⊢;exact r
 |d::ds,vs,h,r=>by
  simp only[Reps] at r ⊢
  refine byc fun zG_=>?_
  obtain⟨v,s,e,r1,r2⟩:=r
  refine zG_ ?_
  have h:noL d=true∧noLs ds=true:=by simpa[noLs] using h
  exact⟨v,s,e,Tk hl d v h.1 r1,unl_reps hl ds s h.2 r2⟩
end
end
noncomputable def Lsl(σ:St)(H:Hp)(i:Nat)(c:Str):List Addr:=match σ[i]? with
 | some (some (.ref a))=>Lof H c a
 |_=>[]
section
variable{K:Frag}{F H F1 H1:Hp}{τ:DS}{σ:St}{i:Nat}{c:Str}
theorem Zt{a:Addr}(h:σ[i]?=some (some (.ref a))):Lsl σ H i c=Lof H c a:=by unfold Lsl;rw[h]
theorem wv(R:RV K F τ σ H)(o:ObS τ[i]? c):Lent F H (Lsl σ H i c):=fun b hb=>by
 refine byc fun zG_=>?_
 obtain⟨a,C,dx,vs,fs,h1,h2,h3⟩:=R.ob.get o
 refine zG_ ?_
 rw[Zt h1,Lof.ins h2] at hb
 exact h3.own hb
theorem Vi(R:RV K F τ σ H)(o:ObS τ[i]? c)(hh:∀b ws,H b=some (.lst ws)→H1 b=some (.lst ws))(hi:∀b C dx vs,H b=some (.ins C dx vs)→H1 b=some (.ins C dx vs)):Lsl σ H1 i c=Lsl σ H i c:=by
 refine byc fun zG_=>?_
 obtain⟨a,C,dx,vs,fs,h1,h2,h3⟩:=R.ob.get o
 refine zG_ ?_
 rw[Zt h1,Zt h1,Lof.ins h2,Lof.ins (hi _ _ _ _ h2)]
 exact h3.same fun l ws _ e=>hh l ws e
end
noncomputable def tL(X:Cx)(i:Nat)(c:Str)(fe:FE):TE:=fun σ H Q=>∃F τ,RV X.K F τ σ H∧ObS τ[i]? c∧Ok X (fe τ) (Ev X.K (jH F H (Lsl σ H i c)) H Q)
noncomputable def tAL(X:Cx)(i:Nat)(c:Str)(fs:FA):TA:=fun σ H Q=>∃F τ,RV X.K F τ σ H∧ObS τ[i]? c∧Ok X (fs τ) (Evs X.K (jH F H (Lsl σ H i c)) H Q)
noncomputable def PDL(X:Cx)(i:Nat)(c:Str)(e:Expr)(fe:FE):Prop:=PE X e (tL X i c fe)
noncomputable def PAL(X:Cx)(i:Nat)(c:Str)(es:List Expr)(fs:FA):Prop:=PA X es (tAL X i c fs)
section
variable{X:Cx}{pos:Pos}{e:Expr}{es:List Expr}{fe:FE}{fs:FA}{i:Nat}{c:Str}
theorem tL.of{F H:Hp}{τ:DS}{σ:St}{Q:VK}{G:D→Prop}(R:RV X.K F τ σ H)(o:ObS τ[i]? c)(h:Ok X (fe τ) G)
  (k:∀d v F1 H1,G d→Ext (jH F H (Lsl σ H i c)) H F1 H1→RV X.K (unl F1 (Lsl σ H i c)) τ σ H1→jH (unl F1 (Lsl σ H i c)) H1 (Lsl σ H1 i c)=F1→Rep X.K F1 d v→Q v H1):tL X i c fe σ H Q:=
 ⟨F,τ,R,o,h.imp fun d g v F1 H1 x r=>by
  have L:=wv R o
  refine k d v F1 H1 g x (R.ext (L.back R.tt x)) ?_ r
  rw[Vi R o (fun b ws e=>x.hh _ _ e) fun b C dx vs e=>x.hh _ _ e]
  funext b
  by_cases z:b∈Lsl σ H i c
  ·rw[wx z]
   obtain⟨_,ws,q⟩:=L b z
   have y:F1 b=some (.lst ws):=x.ff _ _ (by rw[wx z];exact q)
   rw[y];exact x.fh _ _ y
  ·rw[wM z,u8 z]⟩
theorem UA(h:PDE X e fe):PDL X i c e fe:=PE.imp h fun σ H Q z_=>by
 refine byc fun zG_=>?_
 obtain⟨F,τ,R,o,q⟩:=z_
 refine zG_ ?_
 refine tE.of R q fun d v F1 H1 g x R1 r=>?_
 have L:=wv R o
 have es:=Vi (H1:=H1) R o (fun b ws e=>x.hh _ _ e) fun b C dx vs e=>x.hh _ _ e
 have L1:=wv R1 o
 rw[es] at L1
 refine g v (jH F1 H1 (Lsl σ H i c)) H1 ⟨fun b u y=>?_,x.hh,L1.fh R1.fh,fun b u y=>?_,fun _=>L1.tt (x.tt R.tt)⟩ (r.mono L1.ff)
 ·by_cases z:b∈Lsl σ H i c
  ·rw[wx z] at y ⊢
   obtain⟨_,ws,q⟩:=L b z
   rw[q] at y;cases y
   exact x.hh _ _ q
  ·rw[wM z] at y ⊢;exact x.ff _ _ y
 ·by_cases z:b∈Lsl σ H i c
  ·rw[wx z] at y ⊢
   obtain⟨_,ws,q⟩:=L b z
   have w:H1 b=some (.lst ws):=x.hh _ _ q
   rw[w] at y;cases y
   exact .inl q
  ·rw[wM z] at y ⊢;exact x.nw _ _ y
theorem JB:PAL X i c [] zi:=PA.imp wK fun σ H Q z_=>by obtain⟨F,τ,R,o,h⟩:=z_;exact h [] _ H (Ext.refl ((wv R o).fh R.fh)) Reps.nil
theorem v9(ha:PDL X i c e fe)(hr:PAL X i c es fs)(hs:starEach (e::es) X.env=(false,eval e X.env)::starEach es X.env:=by rfl):PAL X i c (e::es) (za fe fs):=
 PA.imp (xI ha hr hs) fun σ H Q ⟨F,τ,R,o,h⟩=>tL.of R o h.bind fun x v F1 H1 g x1 R1 e1 r1=>⟨_,τ,R1,o,by
  rw[e1]
  exact g.bind.imp fun ds g2 vs F2 H2 x2 r2=>g2 (v::vs) F2 H2 (x1.trans x2) (Reps.cons (r1.mono x2.ff) r2)⟩
theorem T4{k n:Nat}{ps:List Str}{g:List D→Rs D}{x:Str}{p:Pos}(D:DefOk X.prog X.w X.K X.mg X.base x k n ps g)(hr:Room k X.A)(ha:PAL X i c (e::es) fs)(hfs:∀τ ds,fs τ=.ok ds→ds.length=(e::es).length)(hn:(e::es).length=n:=by rfl)(hg:Gl X x:=by rfl)(hdb:(x==("__debug__" : Str))=false:=by decide)
  (he:starEach (e::es) X.env=(false,eval e X.env)::starEach es X.env:=by rfl) (hpl:(backTo pos (starEach es X.env)).any (·.1)=false:=by rfl):PDL X i c (.Call (.Name x p) (e::es) [] pos) (zv g fs):=by
 refine byc fun zG_=>?_
 obtain⟨f,fd,F,hb,hk,hm⟩:=D
 refine zG_ ?_
 refine PE.imp (Yl F hr hg hm hk hb .nil (E:=E0) j1 ha hdb he hpl) fun σ H Q z_=>?_
 refine byc fun zG_=>?_
 obtain⟨Fz,τ,R,o,h⟩:=z_
 refine zG_ ?_
 have hb:=h.bind
 refine⟨Fz,τ,R,o,?_⟩
 cases q:fs τ with
 |no=>rw[q] at hb;exact hb
 |ex c=>rw[q] at hb;exact hb
 |ok ds=>
  rw[q] at hb
  intro vs F1 H1 x r
  rw[append_nil]
  refine⟨by rw[← r.length,hfs τ ds q,hn],ds,F1,x.fh,x.tt ((wv R o).tt R.tt),r,?_⟩
  have hb:Ok X (UN (g ds)) (Ev X.K (jH Fz H (Lsl σ H i c)) H Q):=hb
  cases z:g ds with
  |ok d=>rw[z] at hb;exact Ev.ext hb x
  |ex c=>rw[z] at hb;exact hb.elim
  |no=>rw[z] at hb;exact hb.elim
noncomputable def W7(i:Nat)(c:Str)(g:List D→Rs (List D))(fs:FA):FA:=fun τ=>(vT τ i c).bind fun _=>(fs τ).bind fun ds=>match g ds with
 |.ok es=>if noLs es=true then .ok es else .no
 |_=>.no
theorem Mf{τ:DS}{P:Fs→Prop}(h:Ok X (vT τ i c) P):ObS τ[i]? c∧∃fs,P fs:=by
 unfold vT at h
 split at h
 ·rename_i n c' fs e
  by_cases z:c'=c
  ·subst z;rw[if_pos rfl] at h;exact⟨.inl ⟨n,fs,e⟩,fs,h⟩
  ·rw[if_neg z] at h;exact h.elim
 ·rename_i c' fs e
  by_cases z:c'=c
  ·subst z;rw[if_pos rfl] at h;exact⟨.inr ⟨fs,e⟩,fs,h⟩
  ·rw[if_neg z] at h;exact h.elim
 ·exact h.elim
theorem QB{k n:Nat}{ps:List Str}{g:List D→Rs (List D)}{x:Str}{p:Pos}(D:DefN X.prog X.w X.K X.mg X.base x k n ps g)(hr:Room k X.A)(ha:PAL X i c (e::es) fs)(hfs:∀τ ds,fs τ=.ok ds→ds.length=(e::es).length)(hn:(e::es).length=n:=by rfl)(hg:Gl X x:=by rfl)(hdb:(x==("__debug__" : Str))=false:=by decide)
  (he:starEach (e::es) X.env=(false,eval e X.env)::starEach es X.env:=by rfl) (hpl:(backTo pos (starEach es X.env)).any (·.1)=false:=by rfl):PDF X (.Call (.Name x p) (e::es) [] pos) (W7 i c g fs):=by
 refine byc fun zG_=>?_
 obtain⟨f,fd,F,hb,hk,hm⟩:=D
 refine zG_ ?_
 refine PE.imp (Yl F hr hg hm hk hb .nil (E:=E0) j1 ha hdb he hpl) fun σ H Q z_=>?_
 refine byc fun zG_=>?_
 obtain⟨Fz,τ,R,h⟩:=z_
 obtain⟨o,_,hb⟩:=Mf (X:=X) h.bind
 refine zG_ ?_
 have hb:=hb.bind
 refine⟨Fz,τ,R,o,?_⟩
 cases q:fs τ with
 |no=>rw[q] at hb;exact hb
 |ex c=>rw[q] at hb;exact hb
 |ok ds=>
  rw[q] at hb
  intro vs F1 H1 x r
  rw[append_nil]
  have L:=wv R o
  refine⟨by rw[← r.length,hfs τ ds q,hn],ds,F1,x.fh,x.tt (L.tt R.tt),r,?_⟩
  have hb:Ok X (match g ds with
   |.ok es=>if noLs es=true then .ok es else .no
   |_=>.no) _:=hb
  cases z:g ds with
  |ok es'=>
   rw[z] at hb
   obtain⟨hn',hb⟩:=yE hb
   intro p xs F2 H2 x2 hp r2
   refine hb p xs (unl F2 (Lsl σ H i c)) H2 (L.back R.tt (x.trans x2)) hp (unl_reps (fun b hb2=>?_) es' xs hn' r2)
   obtain⟨_,ws,y⟩:=L b hb2
   exact⟨ws,x2.ff _ _ (x.ff _ _ (by rw[wx hb2];exact y))⟩
  |ex c=>rw[z] at hb;exact hb.elim
  |no=>rw[z] at hb;exact hb.elim
end
section
variable{X:Cx}{pos:Pos}{e a b ix:Expr}{es:List Expr}{fe fa fb fi:FE}{fs:FA}{i:Nat}{c f x:Str}{C:Addr}
theorem MZ{K:Frag}{F H F1 H1:Hp}{τ:DS}{σ:St}(R:RV K F τ σ H)(o:ObS τ[i]? c)(x:Ext F H F1 H1):Ext (jH F H (Lsl σ H i c)) H (jH F1 H1 (Lsl σ H i c)) H1∧Lent F1 H1 (Lsl σ H i c):=by
 have L:=wv R o
 have es:=Vi (H1:=H1) R o (fun b ws e=>x.hh _ _ e) fun b C dx vs e=>x.hh _ _ e
 have R1:=R.ext x
 have L1:=wv R1 o
 rw[es] at L1
 refine⟨⟨fun b u y=>?_,x.hh,L1.fh R1.fh,fun b u y=>?_,fun _=>L1.tt (x.tt R.tt)⟩,L1⟩
 ·by_cases z:b∈Lsl σ H i c
  ·rw[wx z] at y ⊢
   obtain⟨_,ws,q⟩:=L b z
   rw[q] at y;cases y
   exact x.hh _ _ q
  ·rw[wM z] at y ⊢;exact x.ff _ _ y
 ·by_cases z:b∈Lsl σ H i c
  ·rw[wx z] at y ⊢
   obtain⟨_,ws,q⟩:=L b z
   have w:H1 b=some (.lst ws):=x.hh _ _ q
   rw[w] at y;cases y
   exact .inl q
  ·rw[wM z] at y ⊢;exact x.nw _ _ y
noncomputable def V9(i:Nat)(c f:Str):FE:=fun τ=>(VH τ i c f).bind fun ds=>.ok (.lst ds)
theorem Jy{p1:Pos}(hx:PE X (.Name x p1) (yX i))(hC:nsIn X.K mainGlobals c=some (some (.ref C)))(cl:Cls X.K C)(na:NoAttr X.K C f)(ho:Tabs.own c f=true:=by rfl)
  (hb:attributeBase (.Name x p1) f X.env (eval (.Name x p1) X.env)=eval (.Name x p1) X.env:=by rfl):PDL X i c (.Attribute (.Name x p1) f pos) (V9 i c f):=
 PE.imp (uF hx hb) fun σ H Q z_=>by
  refine byc fun zG_=>?_
  obtain⟨F,τ,R,o,h⟩:=z_
  obtain⟨ds,a,C',dx,vs,l,ws,h1,h2,h3,h4,h5,h6,h7,h8⟩:=WO R ho (Ok.bind h)
  refine zG_ ?_
  obtain rfl:C=C':=by rw[hC] at h3;cases h3;rfl
  have L:=wv R o
  have hl:l∈Lsl σ H i c:=by rw[Zt h1,Lof.ins h2];exact jg ho h4
  refine⟨_,h1,a,C,dx,vs,.ref l,rfl,h2,cl,na,h4,h8 (.ref l) _ H (Ext.refl (L.fh R.fh)) ?_⟩
  simp only[Rep]
  exact⟨l,ws,rfl,by rw[wx hl];exact h5,h7.mono L.ff⟩
noncomputable def Ub(i:Nat)(c f:Str)(fi:FE):FE:=fun τ=>(XH τ i c f).bind fun es=>(fi τ).bind fun k=>match k with
 |.int k=>match at2 es k with
  |some p=>.ok (.lst p.2)
  |none=>.no
 |_=>.no
theorem Jz{p1 p2:Pos}(hx:PE X (.Name x p1) (yX i))(hC:nsIn X.K mainGlobals c=some (some (.ref C)))(cl:Cls X.K C)(na:NoAttr X.K C f)(hi:PDE X ix fi)(ho:Tabs.own c f=false∧Tabs.own2 c f=true)(hs:vo ix:=by intro _ _;rfl):PDL X i c (.Subscript (.Attribute (.Name x p1) f p2) ix pos) (Ub i c f fi):=
 PE.imp (ZU ix_list (uF hx) hi hs) fun σ H Q z_=>by
  refine byc fun zG_=>?_
  obtain⟨F,τ,R,o,h⟩:=z_
  obtain⟨es,a,C',dx,vs,l,as,h1,h2,h3,h4,h5,h6,h7,h8⟩:=Yr R ho (Ok.bind h)
  refine zG_ ?_
  obtain rfl:C=C':=by rw[hC] at h3;cases h3;rfl
  refine⟨_,h1,a,C,dx,vs,.ref l,rfl,h2,cl,na,h4,?_⟩
  refine tE.of R h8.bind fun k w F2 H2 g2 x2 R2 r2=>?_
  cases k with
  |int k=>
   simp only[Rep] at r2
   simp only at g2
   cases q:at2 es k with
   |none=>rw[q] at g2;exact g2.elim
   |some jd=>
    refine byc fun zG_=>?_
    obtain⟨j,ds⟩:=jd
    rw[q] at g2
    obtain⟨b,ws,z1,z2,z3,z4,z5⟩:=Xr h7 q
    have hl:b∈Lsl σ H i c:=by
     rw[Zt h1,Lof.ins h2]
     exact jh (by rw[vS ho h5];exact mem_cons_of_mem _ (mem_of_getElem? z1)) h4
    obtain⟨x3,L3⟩:=MZ R o x2
    refine zG_ ?_
    refine⟨l,_,k,.ref b,rfl,r2,SqL.of (x2.hh _ _ h5),z2,g2 (.ref b) _ H2 x3 ?_⟩
    simp only[Rep]
    exact⟨b,ws,rfl,by rw[wx hl];exact x2.hh _ _ z3,(z5.mono x2.ff).mono L3.ff⟩
  |_=>exact g2.elim
theorem zf3{r:R2}{op:D→D→Rs D}(h2:∀F H x y dx dy Q,Same F H→Rep X.K F dx x→Rep X.K F dy y→Ok X (op dx dy) (Ev X.K F H Q)→r x y H Q)(σ:St)(H:Hp)(Q:VK)(h:tL X i c (eOp op fa fb) σ H Q):tOp r (tL X i c fa) (tL X i c fb) σ H Q:=by
 refine byc fun zG_=>?_
 obtain⟨F,τ,R,o,h⟩:=h
 refine zG_ ?_
 refine tL.of R o h.bind fun d v F1 H1 g x1 R1 e1 r1=>?_
 refine⟨_,τ,R1,o,?_⟩
 rw[e1]
 exact g.bind.imp fun d2 g2 w F2 H2 x2 r2=>h2 F2 H2 v w d d2 Q x2.fh (r1.mono x2.ff) r2 (g2.imp fun d3 g3=>Ev.ext g3 (x1.trans x2))
noncomputable def eLd(i:Nat)(c:Str)(fe:FE):FE:=fun τ=>(vT τ i c).bind fun _=>(fe τ).bind fun d=>if scal d=true then .ok d else .no
end
section
variable{X:Cx}{pos:Pos}{e:Expr}{fe:FE}{ff:FA}{i:Nat}
noncomputable def fSl(fe:FE)(fl fh:FO):FA:=fun τ=>(fe τ).bind fun d=>(fl τ).bind fun l=>(fh τ).bind fun u=>match d with
 |.lst ds=>.ok (cutD ds l u)
 |_=>.no
theorem ze3{lo hi:Option Expr}{fl fh:FO}{p2:Pos}(he:PDE X e fe)(hl:PDO X lo fl)(hu:PDO X hi fh):PDF X (.Subscript e (.Slice lo hi none p2) pos) (fSl fe fl fh):=
 PE.imp (Vx (sl_str.or Jl) he hl hu) fun σ H Q z_=>by
  refine byc fun zG_=>?_
  obtain⟨F,τ,R,h⟩:=z_
  refine zG_ ?_
  refine tE.of R h.bind fun d v F1 H1 g x R1 r=>?_
  refine⟨F1,τ,R1,g.bind.imp fun l gl F2 H2 x2=>⟨F2,τ,R1.ext x2,gl.bind.imp fun u gu F3 H3 x3=>?_⟩⟩
  have f3:=x3.fh
  have x13:=x.trans (x2.trans x3)
  cases d with
  |lst ds=>
   simp only[Rep] at r;obtain⟨a,vs,rfl,e1,t⟩:=r
   refine .inr ⟨a,vs,rfl,SqL.of (f3 _ _ (x3.ff _ _ (x2.ff _ _ e1))),fun p hp=>gu p _ F3 H3 x13 hp ?_⟩
   unfold cutD U4
   rw[← t.length]
   exact((t.mono (x2.ff.trans x3.ff)).drop _).take _
  |_=>exact gu.elim
noncomputable def QK(i:Nat)(τ:DS):DS:=match τ[i]? with
 | some (some (.obj _ c fs))=>τ.set i (some (.obr c fs))
 |_=>τ
theorem RV.toR{K:Frag}{F H:Hp}{τ:DS}{σ:St}(R:RV K F τ σ H):RV K F (QK i τ) σ H:=by
 unfold QK
 split
 ·rename_i n c fs hi
  have hl:i<τ.length:=(List.getElem?_eq_some_iff.mp hi).1
  have gv:∀{j:Nat} {s:Sl},(∀c fs,s≠.obr c fs)→(τ.set i (some (.obr c fs)))[j]?=some (some s)→i≠j∧τ[j]?=some (some s):=fun {j s} m h=>by
   by_cases z:i=j
   ·subst z;rw[getElem?_set_self hl] at h;cases h;exact absurd rfl (m _ _)
   ·rw[getElem?_set_ne z] at h;exact⟨z,h⟩
  have gs:∀{j:Nat} {c':Str},ObS (τ.set i (some (.obr c fs)))[j]? c'→ObS τ[j]? c':=fun {j c'} h=>by
   by_cases z:i=j
   ·subst z
    rw[getElem?_set_self hl] at h
    rcases h with ⟨_,_,h⟩|⟨_,h⟩
    ·cases h
    ·cases h;exact .inl ⟨n,_,hi⟩
   ·rw[getElem?_set_ne z] at h;exact h
  refine⟨R.fh,by simp[R.len],fun j d h=>R.val j d (gv (fun _ _ z=>by cases z) h).2,fun j ds h=>R.own j ds (gv (fun _ _ z=>by cases z) h).2,fun j k ds es b hjk h1 h2=>R.dis j k ds es b hjk (gv (fun _ _ z=>by cases z) h1).2 (gv (fun _ _ z=>by cases z) h2).2,R.tt,⟨fun j m c1 g h=>R.ob.at_ j m c1 g (gv (fun _ _ z=>by cases z) h).2,fun j k m c1 c2 g b hjk h1 h2=>R.ob.dis j k m c1 c2 g b hjk (gv (fun _ _ z=>by cases z) h1).2 (gs h2),fun j c1 g h=>?_,fun j k m c1 c2 g b b' l hjk h1 h2=>R.ob.ll j k m c1 c2 g b b' l hjk (gv (fun _ _ z=>by cases z) h1).2 (gs h2),fun j k c1 ds b l h1 h2=>R.ob.lo j k c1 ds b l (gs h1) (gv (fun _ _ z=>by cases z) h2).2⟩⟩
  by_cases z:i=j
  ·subst z
   rw[getElem?_set_self hl] at h
   cases h
   refine byc fun zG_=>?_
   obtain⟨a,q1,C,dx,vs,q2,_,q4,q5,_⟩:=R.ob.at_ i n c fs hi
   refine zG_ ?_
   exact⟨a,C,dx,vs,q1,q2,q4,q5⟩
  ·rw[getElem?_set_ne z] at h;exact R.ob.rd j c1 g h
 ·exact R
end
noncomputable def zc2(X:Cx)(G:St→Hp→Prop)(f:FA):TI:=fun σ H R=>∃F τ,RV X.K F τ σ H∧G σ H∧Ok X (f τ) fun ds=>∀J F1 H1,Ext F H F1 H1→ItH X.K J F1 H1 ds→R J H1
noncomputable def Gs(X:Cx)(G:St→Hp→Prop)(f:FA):TE:=fun σ H Q=>∃F τ,RV X.K F τ σ H∧G σ H∧Ok X (f τ) fun ds=>∀p vs F' H',Ext F H F' H'→H' p=none→Reps X.K F' ds vs→Q (.ref p) (upd H' p (.lst vs))
section
variable{X:Cx}{scope:Scope}{tn fr:List Str}{idx:List Nat}{tg iter elt:Expr}{ifs:List Expr}{pos:Pos}{fi:FA}{set:FG}{ft:FT}{fe:FE}
theorem U5{G:St→Hp→Prop}(so:Wt set){Y:Cx}(hK:Y.K=X.K)(σ:St)(H:Hp)(Q:VK)(h:Gs X G (wG tn.length idx fi set ft fe) σ H Q):Jg (w5 tn.length idx) (zc2 X G fi) (tG Y set) (tTs Y ft) (tE Y fe) σ H Q:=by
 refine byc fun zG_=>?_
 obtain⟨F,τ,R,gg,h⟩:=h
 refine zG_ ?_
 refine⟨F,τ,R,gg,h.bind.imp fun ds gds J F1 H1 x io=>fun acc hacc=>?_⟩
 cases q:vd set ft fe (wP tn.length idx τ) ds with
 |no=>rw[q] at gds;exact gds.elim
 |ex c=>rw[q] at gds;exact gds.elim
 |ok xs=>
  rw[q] at gds
  obtain⟨hz,k⟩:=yE gds
  have R1:=R.ext x
  have hF1:F1 acc=none:=zI x.fh hacc
  refine⟨fun i m σ1 Hc=>m=ds.length-i∧i≤ds.length∧∃F2 Hm τ1 dn rs vs,CWH X.K set ft fe (wP tn.length idx τ) ds xs F1 H1 acc i σ1 Hc F2 Hm τ1 dn rs vs,⟨ds.length,by simp,zero_le _,F1,H1,_,[],xs,[],Ext.refl x.fh,hacc,rfl,Reps.nil,?_,wC _ _ _,fun _=>rfl,q,rfl⟩,?_⟩
  ·exact(Jq tn.length idx R1).free_upd (wC _ _ _) hacc hF1 (.inl hacc)
  rintro i m σ1 Hc ⟨rfl,hi,F2,Hm,τ1,dn,rs,vs,x2,hm,rfl,r2,R2,n2,so2,cl,ex⟩
  obtain⟨i1,i2⟩:=io i F2 _ x2.ff R2.rv.fh (x2.hh.trans (.of (yt hm)))
  by_cases hlt:i<ds.length
  ·have hd:ds.drop i=ds[i]::ds.drop (i+1):=drop_eq_getElem_cons hlt
   rw[hd,vd] at cl
   obtain⟨go,yl⟩:=i2 ds[i] (by simp[hlt])
   refine .inr ⟨go,fun y H' yy=>?_⟩
   obtain⟨F3,x3,r3⟩:=yl y H' yy
   refine⟨F3,τ1,ds[i],by rw[hK];exact(R2.ext x3).rv,by rw[hK];exact r3,?_⟩
   rw[so2]
   cases e1:set ds[i] (wP tn.length idx τ) with
   |no=>rw[e1] at cl;cases cl
   |ex c=>rw[e1] at cl;cases cl
   |ok τ2=>
    rw[e1] at cl
    simp only at cl
    intro σ2 _ RR _
    rw[hK] at RR
    have RR:=RR _ _ (R2.ext x3)
    have n3:=so.no _ _ _ e1 (wC _ _ _)
    have so3:∀d,set d τ2=set d (wP tn.length idx τ):=fun d=>so.ov d _ _ _ e1
    cases e2:ft τ2 with
    |no=>rw[e2] at cl;cases cl
    |ex c=>rw[e2] at cl;cases cl
    |ok b=>
     rw[e2] at cl
     refine⟨F3,τ2,by rw[hK];exact RR.rv,?_⟩
     rw[e2]
     intro F4 H4 x4
     have x34:=x3.trans x4
     cases b with
     |false=>
      simp only at cl
      rw[if_neg (by simp)]
      obtain⟨y1,y2⟩:=uc x2 hm x34
      have ha:H4 acc=some (.lst vs):=x34.hh acc _ zo
      have eH:H4=upd (xu H4 acc) acc (.lst vs):=by
       rw[vY];funext b;unfold upd;split
       ·rename_i z;subst z;exact ha
       ·rfl
      refine⟨ds.length-(i+1),by lia,rfl,hlt,F4,xu H4 acc,τ2,dn,rs,vs,y1,we _ _,eH,r2.mono x34.ff,RR.ext x4,n3,so3,cl,ex⟩
     |true=>
      simp only at cl
      rw[if_pos rfl]
      cases e3:fe τ2 with
      |no=>rw[e3] at cl;cases cl
      |ex c=>rw[e3] at cl;cases cl
      |ok z=>
       rw[e3] at cl
       simp only at cl
       cases e4:vd set ft fe (wP tn.length idx τ) (ds.drop (i+1)) with
       |no=>rw[e4] at cl;cases cl
       |ex c=>rw[e4] at cl;cases cl
       |ok rs'=>
        rw[e4] at cl
        have ers:z::rs'=rs:=by simpa using cl
        refine⟨F4,τ2,by rw[hK];exact(RR.ext x4).rv,?_⟩
        rw[e3]
        intro v F5 H5 x5 r5
        rw[hK] at r5
        have x35:=x34.trans x5
        obtain⟨y1,y2⟩:=uc x2 hm x35
        refine⟨vs,x35.hh acc _ zo,?_,ds.length-(i+1),by lia,rfl,hlt,F5,xu H5 acc,τ2,dn++[z],rs',vs++[v],y1,we _ _,by rw[vY],(r2.mono x35.ff).append (Reps.cons r5 Reps.nil),?_,n3,so3,e4,?_⟩
        ·have:=congrArg List.length ex
         rw[← ers,length_append,length_cons,r2.length] at this
         lia
        ·exact((RR.ext x4).ext x5).free_upd n3 hacc y2 (.inr ⟨_,x35.hh acc _ zo⟩)
        ·rw[ex,← ers,append_assoc];rfl
  ·have e:i=ds.length:=by lia
   subst e
   rw[drop_length,vd] at cl
   cases cl
   rw[append_nil] at ex
   subst ex
   exact .inl ⟨i1 (le_refl _),k acc vs F2 Hm (x.trans x2) hm r2⟩
theorem QA{G:St→Hp→Prop}(hb:uA X.env.scope scope=true)(hc:X.calm=true)(hfr:FreeOk scope X.N fr idx)(so:Wt set)(hi:PI X tg iter (zc2 X G fi))
  (hg:∀s H C fp,PDG (X.comp scope (tn++fr) s H C fp) tg set) (ht:∀s H C fp,Tg (X.comp scope (tn++fr) s H C fp) ifs ft) (he:∀s H C fp,PDE (X.comp scope (tn++fr) s H C fp) elt fe)
  (hs:∀x,foldedSetIterable iter X.env x=pure x:=by intro _;rfl):PE X (.ListComp elt [⟨tg,iter,ifs,0⟩] scope pos) (Gs X G (wG tn.length idx fi set ft fe)):=
 PE.imp (WI (s0:=w5 tn.length idx) (g:=tG (X.comp scope (tn++fr) X.s₀ X.H₀ 0 []) set) (ti:=tTs (X.comp scope (tn++fr) X.s₀ X.H₀ 0 []) ft) (te:=tE (X.comp scope (tn++fr) X.s₀ X.H₀ 0 []) fe)
  (wO hb) hc (fun σ _=>by simp[w5,hfr.len]) (jR hfr) hi hg ht he hs) (U5 so rfl)
end
noncomputable def Ali(i k:Nat)(f:Str)(σ:St)(H:Hp):Prop:=∃(a C dx:Addr) (vs:List (Str×V)) (l:Addr) (as:List Addr) (b:Addr),σ[i]?=some (some (.ref a))∧H a=some (.ins C dx vs)∧vs.lookup f=some (.ref l)∧H l=some (.lst (as.map V.ref))∧as[as.length-1]?=some b∧σ[k]?=some (some (.ref b))
noncomputable def Wg(i:Nat)(c f:Str):FA:=fun τ=>(XH τ i c f).bind fun es=>match es[es.length-1]? with
 |some ds=>.ok ds
 |none=>.no
section
variable{X:Cx}{pos:Pos}{e tg:Expr}{i k:Nat}{c f y:Str}
theorem T5{p1:Pos}(hy:PE X (.Name y p1) (yX k))(ho:Tabs.own c f=false∧Tabs.own2 c f=true):PI X tg (.Name y p1) (zc2 X (Ali i k f) (Wg i c f)):=
 PI.imp (Jv hy) fun σ H R z_=>by
  refine byc fun zG_=>?_
  obtain⟨F,τ,Rv,⟨a0,C0,dx0,vs0,l0,as0,b,g1,g2,g3,g4,g5,g6⟩,h⟩:=z_
  obtain⟨es,a,C,dx,vs,l,as,h1,h2,h3,h4,h5,h6,h7,h8⟩:=Yr Rv ho h.bind
  refine zG_ ?_
  rw[h1] at g1;cases g1
  rw[h2] at g2;cases g2
  rw[h4] at g3;cases g3
  rw[h5] at g4
  have ea:as0=as:=by
   have:=congrArg (fun x=>match x with|some (.lst ws)=>YH ws|_=>[]) g4
   simpa[v5] using this.symm
  subst ea
  cases q:es[es.length-1]? with
  |none=>rw[q] at h8;exact h8.elim
  |some ds=>
   rw[q] at h8
   refine byc fun zG_=>?_
   obtain⟨b',ws,z1,z3,z4,z5⟩:=h7.at q
   refine zG_ ?_
   rw[h7.len,g5] at z1;cases z1
   exact⟨_,g6,b,rfl,⟨ws,SqL.of z3⟩,h8 _ F H (Ext.refl Rv.fh) fun i F2 H2 f1 f2 hh=>itl_h z3 hh f2 (z5.mono f1)⟩
end
theorem RS.fgt{K:Frag}{B Z F H:Hp}{τ:DS}{σ:St}(j:Nat)(R:RS K B Z F τ σ H):RS K B Z F (τ.set j none) σ H:=by
 have get:∀{k:Nat} {s:Sl},(τ.set j none)[k]?=some (some s)→τ[k]?=some (some s):=fun {k s} h=>by
  by_cases z:j=k
  ·subst z
   rw[getElem?_set] at h
   simp only[if_true] at h
   split at h <;> cases h
  ·rw[getElem?_set_ne z] at h;exact h
 have gs:∀{k:Nat} {c:Str},ObS (τ.set j none)[k]? c→ObS τ[k]? c:=fun {k c} h=>by
  rcases h with ⟨n,fs,h⟩|⟨fs,h⟩
  ·exact .inl ⟨n,fs,get h⟩
  ·exact .inr ⟨fs,get h⟩
 exact⟨⟨R.rv.fh,by rw[length_set];exact R.rv.len,fun k d h=>R.rv.val k d (get h),fun k ds h=>R.rv.own k ds (get h),fun k m ds es b hkm h1 h2=>R.rv.dis k m ds es b hkm (get h1) (get h2),R.rv.tt,
  ⟨fun k m c fs h=>R.rv.ob.at_ k m c fs (get h),fun k m n c c' fs b hkm h1 h2=>R.rv.ob.dis k m n c c' fs b hkm (get h1) (gs h2),fun k c fs h=>R.rv.ob.rd k c fs (get h),fun k m n c c' fs b b' l hkm h1 h2=>R.rv.ob.ll k m n c c' fs b b' l hkm (get h1) (gs h2),fun k m c ds b l h1 h2=>R.rv.ob.lo k m c ds b l (gs h1) (get h2)⟩⟩,
  R.bh,R.zf,R.nb,fun k ds b h=>R.ob k ds b (get h),fun k n c fs b h=>R.oo k n c fs b (get h),fun a0 dx h1 h2 k n c fs h=>R.sf a0 dx h1 h2 k n c fs (get h),fun k c fs b h=>R.ro k c fs b (get h)⟩
noncomputable def zh0(i k:Nat)(c f g:Str)(ff:FA)(gR:FS)(p:Nat×Fs×List (List D))(τ:DS)(m:Nat):Fl:=match xP g p.2.1 with
 | some (.int n0)=>if p.2.1.length<1000∧p.2.2.length<sizeLine∧k<τ.length then
   Fl.of (ff ((τ.set k none).set i (some (.obj p.1 c (xA g (.int (n0+(m:Int))) p.2.1))))) fun ds=>gR ((τ.set k none).set i (some (.obj p.1 c (xA f (.lst ((p.2.2++[ds]).map D.lst)) (xA g (.int (n0+(m:Int))) p.2.1)))))
  else .no
 |_=>.no
noncomputable def zh1(i k:Nat)(c f g:Str)(ff:FA)(gR:FS)(p:Nat×Fs×List (List D))(τ:DS):D→Fl
 |.int z=>match at2 p.2.2 z with
  |some jd=>if jd.1+1=p.2.2.length then zh0 i k c f g ff gR p τ jd.2.length else .no
  |none=>.no
 |_=>.no
noncomputable def jV(i k:Nat)(c f g:Str)(fi:FE)(ff:FA)(gR:FS):FS:=fun τ=>Fl.of (UR τ i c f) fun p=>Fl.of (fi τ) (zh1 i k c f g ff gR p τ)
section
variable{X:Cx}{i k:Nat}{c f g x y:Str}{C:Addr}{ix comp:Expr}{fi:FE}{ff:FA}{gR:FS}{rest:List Stmt}{p1 p2 p3 p4 p5 p6 p7 p8 p9 p10 q1 apos cpos s1 s2 s3:Pos}
theorem Gr{G:St→Hp→Prop}(h:PE X comp (Gs X G ff)):PE X comp (Gs X G (fun τ=>ff (QK i τ))):=PE.imp h fun σ H Q z_=>by obtain⟨F,τ,R,g,q⟩:=z_;exact⟨F,QK i τ,R.toR,g,q⟩
theorem VA(hN:X.N.Nodup)(hkN:X.N[k]?=some y)(hly:Loc X.env.scope y)(hik:i≠k)(hfg:f≠g)(hx1:PE X (.Name x p1) (yX i))(hx2:PE X (.Name x p4) (yX i))(hx3:PE X (.Name x p9) (yX i))(hy:PE X (.Name y p7) (yX k))
  (hC:nsIn X.K mainGlobals c=some (some (.ref C))) (cl:Cls X.K C) (naf:NoAttr X.K C f) (nag:NoAttr X.K C g) (hi:PDE X ix fi) (hcomp:PE X comp (Gs X (Ali i k f) ff)) (hrest:vC X rest gR) (hgl:Gl X "len") (hml:X.mg "len" = none)
  (ho:Tabs.own c f=false∧Tabs.own2 c f=true) (hog:Tabs.own c g=false∧Tabs.own2 c g=false) (hsx:vo ix:=by intro _ _;rfl)
  (hsw1:swapsWith (.Subscript (.Attribute (.Name x p1) f p2) ix p3) (some (.Name y q1)) s1.line X.env=pure false:=by rfl) (hf1:X.fn y=true∨X.env.scope.names.lookup y=some .local:=by first|exact .inl rfl|exact .inr rfl|assumption)
  (hel:starEach [.Name y p7] X.env=[(false,eval (.Name y p7) X.env)]:=by rfl) (hpl:(backTo p8 (starEach [] X.env)).any (·.1)=false:=by rfl)
  (hfew:((backTo cpos (starEach [comp] X.env)).all (fun x=>!x.1)&&(backToKw cpos (keywordEach [] X.env)).all (fun x=>x.1.isSome)
   && decide ([comp].length+([]:List Keyword).length+(if ([]:List Keyword).isEmpty then 0 else 1)<30))=true:=by rfl)
  (hline:(apos.endLine==cpos.line)=true:=by rfl) (hs:starEach [comp] X.env=[(false,eval comp X.env)]:=by rfl) (hplain:(backTo cpos (starEach [] X.env)).any (·.1)=false:=by rfl)
  (hbase:attributeBase (.Attribute (.Name x p9) f p10) "append" X.env (eval (.Attribute (.Name x p9) f p10) X.env)=eval (.Attribute (.Name x p9) f p10) X.env:=by rfl)
  (hsw3:swapsWith (.Call (.Attribute (.Attribute (.Name x p9) f p10) "append" apos) [comp] [] cpos) none s3.line X.env=pure false:=by rfl) :
  vC X (.Assign [.Name y q1] (.Subscript (.Attribute (.Name x p1) f p2) ix p3) s1 :: .AugAssign (.Attribute (.Name x p4) g p5) .Add (.Call (.Name "len" p6) [.Name y p7] [] p8) s2 :: .Expr (.Call (.Attribute (.Attribute (.Name x p9) f p10) "append" apos) [comp] [] cpos) s3::rest) (jV i k c f g fi ff gR):=
 PSs.imp (jX (WF hN hkN hly (ZU ix_list (uF hx1) hi hsx) hsw1 hf1) (jX (X4 hx2 (pe_callB call_len_seq hgl hml PySem.boot_len (xI hy wK (by rw[hel];rfl)) (he:=by rw[hel];rfl) (hpl:=hpl)) MP)
  (jX (ja (Jx PySem.F.plainAttrs_list PySem.F.slot_list_append PySem.F.type_list_append ua (uF hx3) (xI hcomp wK (by rw[hs];rfl)) hbase hfew hline (by rw[hs];rfl) hplain) hsw3) hrest))) fun E σ H ⟨B,Z,F,τ,R,h⟩=>by
  refine byc fun zG_=>?_
  obtain⟨n,fs,es,a,C',dx,vs,l,as,h0,h1,h2,h3,h4,h5,h6,h7,nd,h8⟩:=Ys R.rv ho (Post.of h)
  refine zG_ ?_
  obtain rfl:C=C':=by rw[hC] at h3;cases h3;rfl
  refine⟨_,h1,a,C,dx,vs,.ref l,rfl,h2,cl,naf,h4,?_⟩
  refine tE.at R (Post.of h8) fun d w F1 H1 g1 x1 R1 r1=>?_
  cases d with
  |int z=>
   simp only[Rep] at r1
   unfold zh1 at g1
   dsimp only at g1
   cases q:at2 es z with
   |none=>rw[q] at g1;exact g1.elim
   |some jd=>
    obtain⟨j,ds⟩:=jd
    rw[q] at g1
    dsimp only at g1
    by_cases hj:j+1=es.length
    ·rw[if_pos hj] at g1
     refine byc fun zG_=>?_
     obtain⟨b,ws,z1,z2,z3,z4,z5⟩:=Xr h7 q
     refine zG_ ?_
     refine⟨l,_,z,.ref b,rfl,r1,SqL.of (x1.hh _ _ h5),z2,?_⟩
     unfold zh0 at g1
     dsimp only at g1
     cases qg:xP g fs with
     |none=>rw[qg] at g1;exact g1.elim
     |some d0=>
      rw[qg] at g1
      cases d0 with
      |int n0=>
       dsimp only at g1
       by_cases hc:fs.length<1000∧es.length<sizeLine∧k<τ.length
       ·rw[if_pos hc] at g1
        refine byc fun zG_=>?_
        obtain⟨hc1,hc2,hc3⟩:=hc
        have h2':H1 a=some (.ins C dx vs):=x1.hh _ _ h2
        have h5':H1 l=some (.lst (as.map V.ref)):=x1.hh _ _ h5
        have hF:∀{b:Addr} {u:HO},H b=some u→F b=none→F1 b=none:=fun {b u} y1 y2=>by
         cases q:F1 b with
         |none=>rfl
         |some w=>
          rcases x1.nw b w q with z|z
          ·rw[y2] at z;cases z
          ·rw[y1] at z;cases z
        obtain⟨a',y1,C2,dx2,vs2,y2,y3,y4,y5,y6,y7⟩:=R1.rv.ob.at_ i n c fs h0
        refine zG_ ?_
        rw[h1] at y1;cases y1
        rw[h2'] at y2;cases y2
        have lk:=y5.look (f:=g)
        rw[qg] at lk
        obtain⟨v,lg,l2⟩:=lk
        unfold Fld1 at l2
        rw[if_neg (by rw[hog.1];simp),if_neg (by rw[hog.2];simp)] at l2
        simp only[Rep] at l2
        have hkσ:k<σ.length:=by rw[← R.rv.len];exact hc3
        have Rk:RS X.K B Z F1 (τ.set k none) (σ.set k (some (.ref b))) H1:=by
         have:=(R1.set (i:=k) (d:=.raw (.ref b)) (v:=.ref b) (by simp only[Rep])).fgt k
         rw[List.set_set] at this;exact this
        have hτi:(τ.set k none)[i]?=some (some (.obj n c fs)):=by rw[getElem?_set_ne (Ne.symm hik)];exact h0
        have hσi:(σ.set k (some (V.ref b)))[i]?=some (some (.ref a)):=by rw[getElem?_set_ne (Ne.symm hik)];exact h1
        have hσk:(σ.set k (some (V.ref b)))[k]?=some (some (.ref b)):=getElem?_set_self hkσ
        refine⟨_,hσi,a,C,dx,vs,v,rfl,h2',cl,nag,lg,?_⟩
        refine⟨_,hσk,b,ws,rfl,.inl (SqL.of (x1.hh _ _ z3)),?_⟩
        refine⟨n0,(ws.length:Int),l2,rfl,dx,vs,h2',by rw[← y5.length];exact hc1,?_⟩
        have R2:=Rk.attV (f:=g) (d:=.int (n0+(ds.length:Int))) (v:=.int (n0+(ws.length:Int))) hτi hσi h2' hog (by simp only[Rep];rw[z5.length])
        have hla:l≠a:=fun z=>by subst z;rw[h2'] at h5';cases h5'
        have lf:(yK g (.int (n0+(ws.length:Int))) vs).lookup f=some (.ref l):=by rw[uX,if_neg hfg];exact h4
        have kk:∀x ws',H x=some (.lst ws')→upd H1 a (.ins C dx (yK g (.int (n0+(ws.length:Int))) vs)) x=some (.lst ws'):=fun x ws' e=>by
         have:x≠a:=fun z=>by subst z;rw[h2] at e;cases e
         rw[zm this];exact x1.hh _ _ e
        have hlast:as[as.length-1]?=some b:=by
         rw[← h7.len,← hj];exact z1
        have hI:Inn X.K F1 (upd H1 a (.ins C dx (yK g (.int (n0+(ws.length:Int))) vs))) es as:=h7.keep x1.ff fun y ws' _ y1 y2=>⟨kk y ws' y1,hF y1 y2⟩
        have hτ2:((τ.set k none).set i (some (.obj n c (xA g (.int (n0+(ds.length:Int))) fs))))[i]?=some (some (.obj n c (xA g (.int (n0+(ds.length:Int))) fs))):=getElem?_set_self (by
         rw[length_set];exact(List.getElem?_eq_some_iff.mp h0).1)
        refine⟨_,hσi,a,C,dx,_,.ref l,rfl,zo,cl,naf,lf,.inl ⟨rfl,_,SqL.of (kk l _ h5)⟩,?_⟩
        refine⟨F1,_,R2.rv,⟨a,C,dx,_,l,as,b,hσi,zo,lf,kk l _ h5,hlast,hσk⟩,(Post.of g1).imp fun ds2 gr p ws2 F3 H3 x3 hp r=>?_⟩
        have R3:=R2.ext x3
        have hF3:F3 l=none:=by
         cases q:F3 l with
         |none=>rfl
         |some w=>
          rcases x3.nw l w q with z|z
          ·rw[hF h5 h6] at z;cases z
          ·rw[kk l _ h5] at z;cases z
        have hpl':l≠p:=fun z=>by subst z;rw[x3.hh _ _ (kk l _ h5)] at hp;cases hp
        refine⟨l,as.map V.ref,.ref p,rfl,rfl,by rw[zm hpl'];exact x3.hh _ _ (kk l _ h5),by rw[length_map,← h7.len];exact hc2,?_⟩
        have k3:=R3.app2 (p:=p) (ds:=ds2) (ws:=ws2) ho hτ2 hσi (x3.hh _ _ zo) lf (x3.hh _ _ (kk l _ h5)) hF3 (hI.keep x3.ff fun y ws' hy' y1 y2=>⟨x3.hh _ _ y1,by
         cases q:F3 y with
         |none=>rfl
         |some w=>
          rcases x3.nw y w q with z|z
          ·rw[y2] at z;cases z
          ·rw[y1] at z;cases z⟩) nd hp r
        rw[show(as++[p]).map V.ref=as.map V.ref++[V.ref p] by simp,List.set_set] at k3
        exact⟨B,Z,F3,_,k3,Post.same gr (x1.ff.trans x3.ff)⟩
       ·rw[if_neg hc] at g1;exact g1.elim
      |_=>exact g1.elim
    ·rw[if_neg hj] at g1;exact g1.elim
  |_=>exact g1.elim
end
theorem RS.new3{K:Frag}{B Z F F' H H':Hp}{τ:DS}{σ:St}{i n:Nat}{c f:Str}{fs:Fs}{a C dx p:Addr}{vs:List (Str×V)}{es:List (List D)}{as:List Addr}(R:RS K B Z F τ σ H)(ho:Tabs.own c f=false∧Tabs.own2 c f=true)(hi:τ[i]?=some (some (.obj n c fs)))(ha:σ[i]?=some (some (.ref a)))(he:H a=some (.ins C dx vs))
  (he':H' a=some (.ins C dx (yK f (.ref p) vs))) (ff:Same F F') (fh:Same F' H') (tt:TbT F' H') (kp:∀b u,b≠a→H b=some u→Kp u (H' b)) (nwF:∀b o,F' b=some o→F b=some o∨H b=none) (hp:H p=none) (hFp:F' p=none) (has:∀b∈as,H b=none) (h5:H' p=some (.lst (as.map V.ref))) (h7:Inn K F' H' es as) (nd:(p::as).Nodup) :
  RS K B Z F' (τ.set i (some (.obj n c (xA f (.lst (es.map D.lst)) fs)))) σ H':=by
 refine byc fun zG_=>?_
 obtain⟨a',q1,C',dx',vs',q2,q3,q4,q5,q6,q7⟩:=R.rv.ob.at_ i n c fs hi
 refine zG_ ?_
 rw[ha] at q1;cases q1
 rw[he] at q2;cases q2
 have hd:dx≠a:=fun z=>by subst z;rw[he] at q6;cases q6
 have nF:∀{b:Addr} {u:HO},H b=some u→F b=none→F' b=none:=fun {b u} y1 y2=>by
  cases q:F' b with
  |none=>rfl
  |some w=>
   rcases nwF b w q with z|z
   ·rw[y2] at z;cases z
   ·rw[y1] at z;cases z
 have kl:∀l ws,l∈zP H c vs→H l=some (.lst ws)→H' l=some (.lst ws):=fun l ws _ e1=>kp l _ (fun z=>by subst z;rw[he] at e1;cases e1) e1
 have sm:zP H' c vs=zP H c vs:=q5.same kl
 have e1:=vS ho h5
 have nw:∀l∈yr H' c f (.ref p),H l=none:=fun l hl=>by
  rw[e1] at hl
  rcases mem_cons.mp hl with z|z
  ·rw[z];exact hp
  ·exact has l z
 refine R.objset hi ha he ff fh tt (fun b u h1 _ e=>kp b u h1 e) (fun b o e=>(nwF b o e).imp id .inl) ⟨C,dx,yK f (.ref p) vs,he',nF he q3,q4,?_,kp dx _ hd q6,uo (by rw[e1];exact nd) (by rw[sm];exact q7) fun l hl z=>?_⟩ fun l hl=>?_
 ·exact(q5.keep (H':=H') ff fun l ws hl y1 y2=>⟨kl l ws hl y1,nF y1 y2⟩).put (by unfold Fld1;rw[if_neg (by rw[ho.1];simp),if_pos ho.2];exact⟨es,p,as,rfl,rfl,h5,hFp,h7⟩)
 ·rw[sm] at z
  obtain⟨_,ws,q⟩:=q5.own z
  rw[nw l hl] at q;cases q
 ·rw[Lof.ins he'] at hl
  rcases jf hl with z|z
  ·exact .inr (nw l z)
  ·rw[sm] at z;exact .inl z
noncomputable def uY(g:List D→Rs (List D))(z:Int):List (List D)→Option (List (List D))
 |[]=>some []
 |ds::r=>match g [.int z,.lst ds] with
  |.ok e=>if noLs e=true then (uY g z r).map (e :: ·) else none
  |_=>none
theorem UX{g:List D→Rs (List D)}{z:Int}{ds:List D}{r rs:List (List D)}(h:uY g z (ds::r)=some rs):∃e rs',g [.int z,.lst ds]=.ok e∧noLs e=true∧uY g z r=some rs'∧rs=e::rs':=by
 unfold uY at h
 cases q:g [.int z,.lst ds] with
 |ok e=>
  rw[q] at h
  dsimp only at h
  by_cases hn:noLs e=true
  ·rw[if_pos hn] at h
   cases q2:uY g z r with
   |none=>rw[q2] at h;cases h
   |some rs'=>rw[q2] at h;cases h;exact⟨e,rs',rfl,hn,rfl,rfl⟩
  ·rw[if_neg hn] at h;cases h
 |ex c=>rw[q] at h;cases h
 |no=>rw[q] at h;cases h
structure HW(K:Frag)(F1 H1:Hp)(acc:Addr)(g:List D→Rs (List D))(z:Int)(es xs:List (List D))(j:Nat)(σ1:St)(Hc F2 Hm:Hp)(news rs:List (List D))(bs:List Addr):Prop where
 a1:Ext F1 H1 F2 Hm
 a2:Hm acc=none
 a3:Hc=upd Hm acc (.lst (bs.map V.ref))
 a4:Inn K F2 Hm news bs
 a5:(acc::bs).Nodup
 a6:∀b∈bs,H1 b=none
 a7:uY g z (es.drop j)=some rs
 a8:xs=news++rs
 a9:0<σ1.length∧σ1[1]?=some (some (.int z))
 ac:news.length=j
theorem Gd{X:Cx}{F H:Hp}{τ:DS}{σ σ0:St}{i:Nat}{l:Addr}{as:List Addr}{es xs:List (List D)}{g:List D→Rs (List D)}{z:Int}{s0:St→St}{Q:VK}{E:XK}(R:RV X.K F τ σ H)(h5:H l=some (.lst (as.map V.ref)))(h7:Inn X.K F H es as)(hs:s0 σ=σ0)(h0:0<σ0.length∧σ0[1]?=some (some (.int z)))(hx:uY g z es=some xs)(hz:es.length<sizeLine)
  (k:∀acc F2 Hm bs,Ext F H F2 Hm→Hm acc=none→H acc=none→F2 acc=none→Inn X.K F2 Hm xs bs→(acc::bs).Nodup→(∀b∈bs,H b=none)→Q (.ref acc) (upd Hm acc (.lst (bs.map V.ref)))) :
  ∀acc,H acc=none→∃W:Nat→Nat→St→Hp→Prop,(∃m,W 0 m (s0 σ) (upd H acc (.lst [])))∧∀i m σ1 Hc,W i m σ1 Hc →
   ((Itl X.K l).stop i Hc∧Q (.ref acc) Hc)∨((Itl X.K l).go i Hc∧∀x H',(Itl X.K l).yld i Hc x H'→Zf 0 x σ1 H' fun σ2 H2=>(fun (_:St) (H:Hp) (Q:Bool→Hp→Prop)=>Q true H) σ2 H2 fun b H3=>
    if b=true then Vm (spN X.K 2 g) [] E (jQ (yX 1) (jQ (yX 0) Um)) σ2 H3 fun y H4=>∃ys,H4 acc=some (.lst ys)∧ys.length<sizeLine∧∃m',m'<m∧W (i+1) m' σ2 (upd H4 acc (.lst (ys++[y]))) else ∃m',m'<m∧W (i+1) m' σ2 H3):=by
 intro acc hacc
 refine⟨fun j m σ1 Hc=>m=es.length-j∧j≤es.length∧∃F2 Hm news rs bs,HW X.K F H acc g z es xs j σ1 Hc F2 Hm news rs bs,⟨es.length,by simp,zero_le _,F,H,[],xs,[],Ext.refl R.fh,hacc,rfl,trivial,by simp,by simp,hx,rfl,by rw[hs];exact h0,rfl⟩,?_⟩
 rintro j m σ1 Hc ⟨rfl,hj,F2,Hm,news,rs,bs,w⟩
 refine byc fun zG_=>?_
 obtain⟨x2,hm,rfl,hI,nd,hn,cl,ex,⟨hσ0,hσ1⟩,hnl⟩:=w
 refine zG_ ?_
 have hla:l≠acc:=fun y=>by subst y;rw[hacc] at h5;cases h5
 have hl':upd Hm acc (.lst (bs.map V.ref)) l=some (.lst (as.map V.ref)):=by rw[zm hla];exact x2.hh _ _ h5
 have F2a:F2 acc=none:=zI x2.fh hm
 by_cases hlt:j<es.length
 ·have hd:es.drop j=es[j]::es.drop (j+1):=drop_eq_getElem_cons hlt
  rw[hd] at cl
  refine byc fun zG_=>?_
  obtain⟨e1,rs',g1,g2,g3,rfl⟩:=UX cl
  obtain⟨b,ws,z1,z3,z4,z5⟩:=h7.at (k:=j) (ds:=es[j]) (by simp[hlt])
  refine zG_ ?_
  have ha:(as.map V.ref)[j]?=some (.ref b):=by rw[getElem?_map,z1];rfl
  refine .inr ⟨⟨_,_,SqL.of hl',ha⟩,fun x H' yy=>?_⟩
  obtain⟨e0,yy⟩:=yy
  subst e0
  have ey:=yy _ (SqL.of hl')
  rw[ha] at ey;cases ey
  dsimp only [Zf]
  rw[if_pos rfl]
  have hba:b≠acc:=fun y=>by subst y;rw[hacc] at z3;cases z3
  have hb':upd Hm acc (.lst (bs.map V.ref)) b=some (.lst ws):=by rw[zm hba];exact x2.hh _ _ z3
  have F2b:F2 b=none:=by
   cases q:F2 b with
   |none=>rfl
   |some u=>
    rcases x2.nw b u q with y|y
    ·rw[z4] at y;cases y
    ·rw[z3] at y;cases y
  have xo:Ext F2 Hm F2 (upd Hm acc (.lst (bs.map V.ref))):=Ext.open x2.fh hm
  have L:Lent F2 (upd Hm acc (.lst (bs.map V.ref))) [b]:=fun y hy=>by
   have:y=b:=by simpa using hy
   subst this;exact⟨F2b,ws,hb'⟩
  have t2:TbT F2 (upd Hm acc (.lst (bs.map V.ref))):=xo.tt (x2.tt R.tt)
  refine⟨_,by rw[getElem?_set_ne (by decide)];exact hσ1,_,getElem?_set_self hσ0,?_⟩
  refine⟨rfl,[.int z,.lst es[j]],jH F2 (upd Hm acc (.lst (bs.map V.ref))) [b],L.fh xo.fh,L.tt t2,Reps.cons (by simp only[Rep]) (Reps.cons ?_ Reps.nil),?_⟩
  ·simp only[Rep]
   exact⟨b,ws,rfl,by rw[wx (by simp)];exact hb',(z5.mono x2.ff).mono L.ff⟩
  ·rw[g1]
   intro p xs' F' H' x3 hp r3
   have y3:=L.back t2 x3
   obtain⟨y4,y5⟩:=uc x2 hm y3
   have hpa:p≠acc:=fun y=>by subst y;rw[y3.hh _ _ zo] at hp;cases hp
   have hac:H' acc=some (.lst (bs.map V.ref)):=y3.hh _ _ zo
   have hp1:xu H' acc p=none:=by rw[wk hpa];exact hp
   have Fp:unl F' [b] p=none:=zI y4.fh hp1
   have hpb:p∉bs:=fun y=>by
    obtain⟨_,ws',q⟩:=hI.own y
    have:p≠acc:=hpa
    have:=y3.hh p _ (show upd Hm acc (.lst (bs.map V.ref)) p=some (.lst ws') by rw[zm hpa];exact q)
    rw[hp] at this;cases this
   refine⟨bs.map V.ref,by rw[zm (Ne.symm hpa)];exact hac,by rw[length_map,← hI.len,hnl];lia,es.length-(j+1),by lia,rfl,hlt,unl F' [b],upd (xu H' acc) p (.lst xs'),news++[e1],rs',bs++[p],y4.trans (Ext.open y4.fh hp1),?_,?_,?_,?_,?_,g3,?_,?_,?_⟩
   ·rw[zm (Ne.symm hpa)];exact we _ _
   ·funext y
    by_cases y1:y=acc
    ·subst y1;rw[zo,zo];simp
    ·rw[zm y1,zm y1]
     by_cases y2:y=p
     ·subst y2;rw[zo,zo]
     ·rw[zm y2,zm y2,wk y1]
   ·refine Inn.app zo Fp (unl_reps (fun c hc=>?_) e1 xs' g2 r3) (hI.keep (xo.ff.trans y3.ff) fun y ws' hy y1 y2=>⟨?_,?_⟩)
    ·have:c=b:=by simpa using hc
     subst this
     exact⟨ws,x3.ff _ _ (by rw[wx (by simp)];exact hb')⟩
    ·have n1:y≠p:=fun w=>hpb (by rw[← w];exact hy)
     have n2:y≠acc:=fun w=>(nodup_cons.mp nd).1 (by rw[← w];exact hy)
     rw[zm n1,wk n2]
     exact y3.hh y _ (by rw[zm n2];exact y1)
    ·have n2:y≠acc:=fun w=>(nodup_cons.mp nd).1 (by rw[← w];exact hy)
     cases q:unl F' [b] y with
     |none=>rfl
     |some u=>
      rcases y3.nw y u q with w|w
      ·rw[y2] at w;cases w
      ·rw[zm n2,y1] at w;cases w
   ·obtain⟨n1,n2⟩:=nodup_cons.mp nd
    refine nodup_cons.mpr ⟨fun w=>?_,List.nodup_append.mpr ⟨n2,by simp,fun y hy w hw=>?_⟩⟩
    ·rcases mem_append.mp w with w|w
     ·exact n1 w
     ·exact hpa (by simpa using w:acc=p).symm
    ·have:w=p:=by simpa using hw
     subst this;exact fun q=>hpb (by rw[← q];exact hy)
   ·intro y hy
    rcases mem_append.mp hy with w|w
    ·exact hn y w
    ·have:y=p:=by simpa using w
     subst this
     exact xq y4.hh hp1
   ·rw[ex,append_assoc];rfl
   ·exact⟨by rw[length_set];exact hσ0,by rw[getElem?_set_ne (by decide)];exact hσ1⟩
   ·rw[length_append,hnl];rfl
 ·have e:j=es.length:=by lia
  subst e
  rw[drop_length] at cl
  cases cl
  rw[append_nil] at ex
  subst ex
  exact .inl ⟨⟨_,SqL.of hl',by rw[length_map,← h7.len];exact le_refl _⟩,k acc F2 Hm bs x2 hm hacc F2a hI nd hn⟩
theorem GS{Y:Cx}{e1 e2:Expr}{k:Nat}{ps:List Str}{g:List D→Rs (List D)}{x:Str}{p pos:Pos}(D:DefN Y.prog Y.w Y.K Y.mg Y.base x k 2 ps g)(hr:Room k Y.A)(h1:PE Y e1 (yX 1))(h2:PE Y e2 (yX 0))(hg:Gl Y x:=by rfl)(hdb:(x==("__debug__" : Str))=false:=by decide)
  (he1:starEach [e1,e2] Y.env=(false,eval e1 Y.env)::starEach [e2] Y.env:=by rfl) (he2:starEach [e2] Y.env=(false,eval e2 Y.env)::starEach [] Y.env:=by rfl) (hpl:(backTo pos (starEach [e2] Y.env)).any (·.1)=false:=by rfl) :
  PE Y (.Call (.Name x p) [e1,e2] [] pos) (Vm (spN Y.K 2 g) [] E0 (jQ (yX 1) (jQ (yX 0) Um))):=by
 refine byc fun zG_=>?_
 obtain⟨f,fd,F,hb,hk,hm⟩:=D
 refine zG_ ?_
 exact Yl F hr hg hm hk hb .nil (E:=E0) j1 (xI h1 (xI h2 wK he2) he1) hdb he1 hpl
noncomputable def Jo(i kn:Nat)(c f:Str)(g:List D→Rs (List D)):FS:=fun τ=>Fl.of (UR τ i c f) fun p=>match τ[kn]? with
 | some (some (.val (.int z)))=>(match uY g z p.2.2 with
  |some xs=>if p.2.1.length<1000∧p.2.2.length<sizeLine then .nx (τ.set i (some (.obj p.1 c (xA f (.lst (xs.map D.lst)) p.2.1)))) else .no
  |none=>.no)
 |_=>.no
section
variable{X:Cx}{i kn:Nat}{c f x lv nm:Str}{C:Addr}{elt:Expr}{scope:Scope}{g:List D→Rs (List D)}{p1 p2 p3 lp tp pos pos':Pos}
theorem GX(hx1:PE X (.Name x p1) (yX i))(hx2:PE X (.Name x p2) (yX i))(hC:nsIn X.K mainGlobals c=some (some (.ref C)))(cl:Cls X.K C)(na:NoAttr X.K C f)(hb:uA X.env.scope scope=true)(hc:X.calm=true)(hfr:FreeOk scope X.N [nm] [kn])
  (hg:∀s H C fp,PG (X.comp scope ([lv]++[nm]) s H C fp) (.Name lv tp) (Zf 0)) (he:∀s H C fp,PE (X.comp scope ([lv]++[nm]) s H C fp) elt (Vm (spN X.K 2 g) [] E0 (jQ (yX 1) (jQ (yX 0) Um)))) (ho:Tabs.own c f=false∧Tabs.own2 c f=true)
  (hs:∀x',foldedSetIterable (.Attribute (.Name x p2) f p3) X.env x'=pure x':=by intro _;rfl) (hsw:swapsWith (.ListComp elt [⟨.Name lv tp,.Attribute (.Name x p2) f p3,[],0⟩] scope lp) (some (.Attribute (.Name x p1) f pos')) pos.line X.env=pure false:=by rfl) :
  PDS X (.Assign [.Attribute (.Name x p1) f pos'] (.ListComp elt [⟨.Name lv tp,.Attribute (.Name x p2) f p3,[],0⟩] scope lp) pos) (Jo i kn c f g):=
 PS.imp (WH hx1 (WI (s0:=w5 1 [kn]) (g:=Zf 0) (ti:=fun _ H Q=>Q true H) (te:=Vm (spN X.K 2 g) [] E0 (jQ (yX 1) (jQ (yX 0) Um))) (wO hb) hc (fun σ _=>by simp[w5]) (jR (tn:=[lv]) hfr) (Jv (uF hx2)) hg (fun s H C fp=>Ju) he hs) hsw) fun E σ H z_=>by
  refine byc fun zG_=>?_
  obtain⟨B,Z,F,τ,R,h⟩:=z_
  obtain⟨n,fs,es,a,C',dx,vs,l,as,h0,h1,h2,h3,h4,h5,h6,h7,nd0,h8⟩:=Ys R.rv ho (Post.of h)
  refine zG_ ?_
  obtain rfl:C=C':=by rw[hC] at h3;cases h3;rfl
  dsimp only at h8
  split at h8
  ·rename_i z hz
   cases q:uY g z es with
   |none=>rw[q] at h8;exact h8.elim
   |some xs=>
    rw[q] at h8
    dsimp only at h8
    by_cases hcc:fs.length<1000∧es.length<sizeLine
    ·rw[if_pos hcc] at h8
     obtain⟨v,v1,v2⟩:=R.rv.val kn _ hz
     simp only[Rep] at v2
     subst v2
     refine⟨_,h1,a,C,dx,vs,.ref l,rfl,h2,cl,na,h4,l,rfl,⟨_,SqL.of h5⟩,?_⟩
     refine Gd (i:=i) (E:=E0) (Q:=fun y H1=>yX i σ H1 fun x H2=>∃a C dx fs,x=.ref a∧H2 a=some (.ins C dx fs)∧Cls X.K C∧NoAttr X.K C f∧fs.length<1000∧E.nx σ (upd H2 a (.ins C dx (yK f y fs)))) R.rv h5 h7 rfl ⟨show 0<(w5 1 [kn] σ).length by simp[w5],show(w5 1 [kn] σ)[1]?=_ by simp[w5,v1]⟩ q hcc.2 fun acc F2 Hm bs x hm hacc F2a hI nd hn=>?_
     have haa:a≠acc:=fun y=>by subst y;rw[hacc] at h2;cases h2
     have h2m:upd Hm acc (.lst (bs.map V.ref)) a=some (.ins C dx vs):=by rw[zm haa];exact x.hh _ _ h2
     refine byc fun zG_=>?_
     obtain⟨a',y1,C2,dx2,vs2,y2,y3,y4,y5,y6,y7⟩:=R.rv.ob.at_ i n c fs h0
     refine zG_ ?_
     rw[h1] at y1;cases y1
     rw[h2] at y2;cases y2
     have F2q:F2 a=none:=by
      cases q:F2 a with
      |none=>rfl
      |some u=>
       rcases x.nw a u q with w|w
       ·rw[y3] at w;cases w
       ·rw[h2] at w;cases w
     refine⟨_,h1,a,C,dx,vs,rfl,h2m,cl,na,by rw[← y5.length];exact hcc.1,h8 σ F2 _ x.ff ?_⟩
     have xo:Ext F2 Hm F2 (upd Hm acc (.lst (bs.map V.ref))):=Ext.open x.fh hm
     refine R.new3 (p:=acc) (as:=bs) ho h0 h1 h2 zo x.ff (fun b o e=>?_) ((xo.tt (x.tt R.rv.tt)).ins h2m) (fun b u y1 e=>?_) x.nw hacc F2a hn ?_ (hI.keep (Same.refl F2) fun b ws hb' y1 y2=>⟨?_,y2⟩) nd
     ·have:b≠a:=fun w=>by subst w;rw[F2q] at e;cases e
      rw[zm this];exact xo.fh b o e
     ·rw[zm y1,zm (zA e hacc)];exact x.hh b u e
     ·rw[zm (Ne.symm haa)];exact zo
     ·have n1:b≠a:=fun w=>by subst w;rw[hn _ hb'] at h2;cases h2
      have n2:b≠acc:=fun w=>(nodup_cons.mp nd).1 (by rw[← w];exact hb')
      rw[zm n1,zm n2];exact y1
    ·rw[if_neg hcc] at h8;exact h8.elim
  ·exact h8.elim
end
end FD
set_option Elab.async false
set_option linter.all false
namespace STW
open PySem
noncomputable abbrev Ris(l:List Nat):Prop:=l.Pairwise (· < ·)
noncomputable def TT(L:Bool)(t:SetTable):Prop:=t.led=L∧t.dummies = #[]∧Ris t.place.toList
section
variable{prog:Program}{w:World}{K:Type}[DecidableEq K]{knd:KeyKind prog w K}{A:Around}{E:Value→Shared→Prop}{s:Shared}{L:Bool}{a:Addr}{S:K→Bool}{n:Nat}{k:K}{x:Value}
noncomputable def SetT(knd:KeyKind prog w K)(L:Bool)(h:Heap)(a:Addr)(S:K→Bool)(n:Nat):Prop:=
 ∃o es ep t,h.get? a=some o∧o.ExactSet∧o.data=.set es ep t∧ElemsOf knd es.toList∧(∀k,S k=true↔∃e∈es.toList,knd.is k e.2=true)∧es.size<scanBound∧t.fits es.size=true∧es.size=n∧TT L t
end
open PyProof.Rows
section
variable{prog:Program}{w:World}{A:Around}{R:Result→Shared→Prop}{I:Addr}{fp wr:List Addr}{G:Array GenState→Array GenState→Prop}{n:Nat}{P:Nat→Value→Prop}{St:Nat→Shared→Prop}{L:Bool}
end
section
variable{prog:Program}{w:World}{A:Around}{E:Value→Shared→Prop}{s:Shared}
end
open PyProof.Rows
section
variable{prog:Program}{w:World}{A:Around}{E:Value→Shared→Prop}{s:Shared}
end
open PyProof.Rows
namespace FS
end FS
section
variable{prog:Program}{w:World}{A:Around}{E:Value→Shared→Prop}{s:Shared}
end
open PySem PyProof.Rows
section
variable{prog:Program}{w:World}{A:Around}{E:Value→Shared→Prop}{s:Shared}{I a:Addr}{es:Array (Int×Value)}{ep:Nat}{t:SetTable}{Q:Option Value→Shared→Prop}
end
open PySem PyProof.Rows
section
variable{prog:Program}{w:World}{A:Around}{E:Value→Shared→Prop}{s:Shared}{I a:Addr}{es:Array (Int×Value)}{ep:Nat}{t:SetTable}
end
open PySem PyProof.Rows
section
variable{prog:Program}{w:World}{A:Around}{E:Value→Shared→Prop}{s:Shared}{I a T:Addr}{es:Array (Int×Value)}{ep:Nat}{t:SetTable}{Q:Option Value→Shared→Prop}
end
open PySem PyProof.Rows
section
variable{prog:Program}{w:World}{A:Around}{E:Value→Shared→Prop}{s:Shared}{a:Addr}{es:Array (Int×Value)}{ep:Nat}{t:SetTable}
end
open PySem PyProof.Rows
section
variable{prog:Program}{w:World}{A:Around}{E:Value→Shared→Prop}{s:Shared}{a:Addr}{es:Array (Int×Value)}{ep:Nat}{t:SetTable}
end
open PySem PyProof.Rows
section
variable{prog:Program}{w:World}{A:Around}{E:Value→Shared→Prop}{s:Shared}{a:Addr}{es:Array (Int×Value)}{ep:Nat}{t:SetTable}
end
open PySem PyProof.Rows
section
variable{prog:Program}{w:World}{A:Around}{E:Value→Shared→Prop}{s:Shared}{a:Addr}{ns:List Int}{n:Nat}
end
end STW
set_option Elab.async false
set_option linter.all false
set_option maxRecDepth 100000
namespace FD
open PySem PySem.Spec PyProof.Rows L2
variable[Tabs]
section
variable{X:Cx}{e:Expr}{pos:Pos}{fs:FA}
end
section
variable{X:Cx}
end
end FD
set_option Elab.async false
set_option linter.all false
namespace L2
open PySem PySem.Spec PyProof.Rows
section
variable{κ:Type}[DecidableEq κ]
end
section
variable{P:Program}{w:World}{H:Hp}{h:Heap}{a:Addr}
end
section
variable{X:Cx}{pins:List (Addr×Obj)}{σ:St}{H:Hp}{s:Shared}{a:Addr}{y v:V}{u r:Value}{o:Option V}{A:Around}{E:Value→Shared→Prop}
end
section
variable{X:Cx}{pins:List (Addr×Obj)}{σ:St}{H:Hp}{s:Shared}{a:Addr}{kvs:List (Key×V)}{k:Key}{u:Value}{A:Around}{E:Value→Shared→Prop}
end
section
variable{X:Cx}{o i e value:Expr}{pos pos' tpos:Pos}{td ty tv:TE}
end
section
variable{X:Cx}{pos:Pos}
end
section
variable{X:Cx}{pins:List (Addr×Obj)}{σ:St}{H:Hp}{s:Shared}{a:Addr}{y d:V}{u r:Value}{o:Option V}{A:Around}{E:Value→Shared→Prop}
end
section
variable{X:Cx}{o e f:Expr}{apos cpos:Pos}{td ty tx:TE}
end
section
variable{X:Cx}{pins:List (Addr×Obj)}{σ:St}{H:Hp}{s:Shared}{a:Addr}{kvs:List (Key×V)}{A:Around}{E:Value→Shared→Prop}
end
section
variable{X:Cx}{pins:List (Addr×Obj)}{σ:St}{H:Hp}{s:Shared}{a:Addr}{y:V}{u:Value}{A:Around}{E:Value→Shared→Prop}
end
section
variable{κ:Type}[DecidableEq κ]
end
end L2
set_option Elab.async false
set_option linter.all false
set_option maxRecDepth 100000
namespace STW
open PySem PyProof.Rows
section
variable{prog:Program}{w:World}{K:Type}[DecidableEq K]{knd:KeyKind prog w K}{A:Around}{E:Value→Shared→Prop}{s:Shared}{d:Addr}{kvs:List (K×Value)}{ep:Nat}
end
section
variable{prog:Program}{w:World}{K:Type}[DecidableEq K]{knd:KeyKind prog w K}{A:Around}{E:Value→Shared→Prop}{s:Shared}{d:Addr}{kvs:List (K×Value)}{ep:Nat}{ns:List Int}{b:Bool}
end
end STW
set_option Elab.async false
set_option linter.all false
set_option maxRecDepth 100000
namespace FD
open PySem PySem.Spec PyProof.Rows L2
variable[Tabs]
section
variable{X:Cx}{pos pp kp p1 p2:Pos}{kk:Nat}
end
section
variable{X:Cx}{i:Nat}{y:Str}{e0 e0' e0'' e1:Expr}{f0 f1:FE}{q1 q2 q3 cp sp sp2 lp ap ip atp callp xp:Pos}
end
section
variable{X:Cx}{i r:Nat}{x y:Str}{e0 e0' e0'' e1 iter:Expr}{fi:FA}{q1 q2 q3 cp sp sp2 lp ap ip atp callp xp tp pos:Pos}
end
section
variable{X:Cx}{i r:Nat}{x y c:Str}{iter elt:Expr}{fi:FA}{body:List Stmt}{scope:Scope}{yp tp dp a1 fp rp cpos cp sp p1 p2 kp:Pos}{kk:Nat}
end
end FD
set_option Elab.async false
set_option linter.all false
set_option maxRecDepth 100000
namespace STW
open PySem PyProof.Rows
section
variable{prog:Program}{w:World}{K:Type}[DecidableEq K]{knd:PySem.KeyKind prog w K}{A:Around}{E:Value→Shared→Prop}{s:Shared}{d:Addr}{kvs:List (K×Value)}{ep:Nat}{ss:List Str}
end
end STW
set_option Elab.async false
set_option linter.all false
set_option maxRecDepth 100000
namespace FD
open PySem PySem.Spec PyProof.Rows L2
variable[Tabs]
section
variable{X:Cx}
end
noncomputable def vP(ft:FT)(fb:FS):Nat→DS→Fl
 |0,_=>.no
 |n+1,τ=>Fl.of (ft τ) fun b=>if b=true then (match fb τ with
  |.nx τ'=>vP ft fb n τ'
  |.rt d=>.rt d
  |_=>.no) else .nx τ
noncomputable def uS(ft:FT)(fb:FS):FS:=vP ft fb 64
theorem ZB{X:Cx}{pos:Pos}{c:Expr}{body:List Stmt}{ft:FT}{fb:FS}(hp:PassesOwn (model X.prog X.w) X.A X.env X.xe)(hc:PDT X c ft)(hb:vC X body fb):PDS X (.While c body [] pos) (uS ft fb):=
 PS.imp (GL hp hc hb) fun E σ H z_=>by
  refine byc fun zG_=>?_
  obtain⟨B,Z,F,τ,R,h⟩:=z_
  refine zG_ ?_
  refine⟨fun m σ H=>∃F' τ',Same F F'∧RS X.K B Z F' τ' σ H∧Post X B Z F' E (vP ft fb m τ'),⟨64,F,τ,Same.refl _,R,h⟩,?_⟩
  rintro m σ1 H1 ⟨F1,τ1,f1,R1,p1⟩
  cases m with
  |zero=>exact p1.elim
  |succ m=>
   refine⟨F1,τ1,R1.rv,?_⟩
   refine(Post.of p1).imp fun b p2 F2 H2 x2=>?_
   cases b with
   |false=>exact p2 σ1 F2 H2 x2.ff (R1.ext x2)
   |true=>
    rw[if_pos rfl] at p2 ⊢
    refine⟨fun σ' H'=>∃F' τ',Same F F'∧RS X.K B Z F' τ' σ' H'∧Post X B Z F' E (vP ft fb m τ'),fun σ' H' ⟨F',τ',a,b,c⟩=>⟨m,Nat.lt_succ_self _,F',τ',a,b,c⟩,B,Z,F2,τ1,R1.ext x2,?_⟩
    cases q:fb τ1 with
    |nx τ2=>rw[q] at p2;exact fun σ' F' H' ff RR=>⟨F',τ2,(f1.trans x2.ff).trans ff,RR,Post.same p2 (x2.ff.trans ff)⟩
    |rt d=>rw[q] at p2;exact p2
    |ct τ2=>rw[q] at p2;exact p2.elim
    |bk τ2=>rw[q] at p2;exact p2.elim
    |ro d τ2=>rw[q] at p2;exact p2.elim
    |rb d τ2=>rw[q] at p2;exact p2.elim
    |ex c=>rw[q] at p2;exact p2.elim
    |no=>rw[q] at p2;exact p2.elim
    |rs c τ2=>rw[q] at p2;exact p2.elim
noncomputable abbrev FG2:=DS→List Str→Option (DS×List Str)
section
variable{X:Cx}{i r:Nat}{x y:Str}{e0 iter:Expr}{fk:FE}{fi:FA}{f:FG2}{q1 sp bp ap tp pos:Pos}{kk:Nat}{body:List Stmt}
end
section
variable{X:Cx}{i r:Nat}{x y sx:Str}{iter:Expr}{f:FG2}{st:Stmt}{yp dp a1 rp p1 pos pp:Pos}
end
end FD
set_option Elab.async false
set_option linter.all false
set_option maxRecDepth 100000
namespace STW
open PySem PyProof.Rows
section
variable{prog:Program}{w:World}{A:Around}{R:Result→Shared→Prop}{I:Addr}{fp wr:List Addr}{G:Array GenState→Array GenState→Prop}{n:Nat}{P:Nat→Value→Prop}{St:Nat→Shared→Prop}{L:Bool}
end
section
variable{prog:Program}{w:World}{A:Around}{E:Value→Shared→Prop}{s:Shared}
end
section
variable{prog:Program}{w:World}{A:Around}{E:Value→Shared→Prop}{s:Shared}{a:Addr}{ns:List Str}{n:Nat}
end
end STW
set_option Elab.async false
set_option linter.all false
set_option maxRecDepth 100000
namespace FD
open PySem PySem.Spec PyProof.Rows L2
variable[Tabs]
section
variable{X:Cx}{e:Expr}{pos:Pos}{fs:FA}
end
end FD
set_option Elab.async false
set_option linter.all false
set_option maxRecDepth 100000
namespace STW
open PySem PyProof.Rows
section
variable{prog:Program}{w:World}{K:Type}[DecidableEq K]{knd:KeyKind prog w K}{A:Around}{E:Value→Shared→Prop}{s:Shared}{d:Addr}{kvs:List (K×Value)}{ep:Nat}
end
end STW
set_option Elab.async false
set_option linter.all false
set_option maxRecDepth 100000
namespace FD
open PySem PySem.Spec PyProof.Rows L2
variable[Tabs]
section
variable{X:Cx}{pos apos cpos:Pos}{e o f tg:Expr}{fe fo ff:FE}
end
noncomputable abbrev SI:=List (Str×Int)
noncomputable abbrev FG3:=DS→SI→Option (DS×SI)
section
variable{X:Cx}{i r:Nat}{x y:Str}{e0 e0' ev iter:Expr}{fk fv:FE}{fi:FA}{f:FG3}{q1 q2 sp bp ap tp pos gp gc c0 c1 cp ip:Pos}{k0 k1:Nat}{body:List Stmt}
end
section
variable{X:Cx}{i:Nat}{y:Str}{f:FG3}{st:Stmt}{yp dp a1 rp p1:Pos}
end
section
variable{X:Cx}{pos p1 p2:Pos}{k1 k2:Nat}{x:Str}{n:Int}
end
section
variable{prog:Program}{w:World}{A:Around}{R:Result→Shared→Prop}{E:Value→Shared→Prop}{I S:Addr}{fp wr:List Addr}{n:Nat}{P:Nat→Value→Prop}{St:Nat→Heap→Prop}{kw:List (Str×Value)}{Ph:Heap→Prop}
end
variable[Tabs]
section
variable{X:Cx}{pos pp kp:Pos}{e e2:Expr}{fe f2:FE}
end
section
open PySem.SeqAt
open PySem.AutoSeq1 (wpAny_loadPart')
open PySem.MeetsSeq PySem.MeetsSeq2 PySem.MeetsSeq3
end
section
variable{prog:Program}{w:World}{A:Around}{E:Value→Shared→Prop}{s:Shared}
end
variable[Tabs]
section
variable{X:Cx}
end
section
variable{X:Cx}
end
section
variable{X:Cx}
end
end FD
set_option Elab.async false
set_option linter.all false
set_option maxRecDepth 100000
namespace STW
open PySem PyProof.Rows
section
variable{prog:Program}{w:World}{K:Type}[DecidableEq K]{knd:KeyKind prog w K}{A:Around}{R:Result→Shared→Prop}{I d:Addr}{fp wr:List Addr}{n:Nat}{P:Nat→Value→Prop}{St:Nat→Heap→Prop}
end
section
variable{prog:Program}{w:World}{K:Type}[DecidableEq K]{knd:KeyKind prog w K}{A:Around}{E:Value→Shared→Prop}{s:Shared}
end
end STW
set_option Elab.async false
set_option linter.all false
set_option maxRecDepth 100000
namespace FD
open PySem PySem.Spec PyProof.Rows L2
variable[Tabs]
section
variable{X:Cx}
end
section
variable{X:Cx}{e:Expr}{pos:Pos}{fs:FA}
end
open PySem.W
section
variable{n:Nat}{κ:Nat→List Int}
end
section
variable{prog:Program}{w:World}{A:Around}{E:Value→Shared→Prop}{s:Shared}
end
variable[Tabs]
section
variable{X:Cx}{pins:List (Addr×Obj)}{σ:St}{F H:Hp}{τ:DS}{s:Shared}{Q:VK}{E:Value→Shared→Prop}
end
section
variable{P:Program}{w:World}{K:Frag}{mg:Str→Option Value}{base:Heap}
end
section
variable{X:Cx}{pos:Pos}{e a b:Expr}{es rest:List Expr}{fe fb:FE}{fs:FA}{c m x:Str}{i k n:Nat}{ps:List Str}{fo:FOb}
end
section
variable{X:Cx}{pins:List (Addr×Obj)}{σ:St}{H:Hp}{s:Shared}{a:Addr}{cls:Value}
end
section
variable{X:Cx}
noncomputable def QS(X:Cx)(st:Stmt)(t:TS):Prop:=∀(pins:List (Addr×Obj)) (s:Shared) (σ:St) (H:Hp) (D:XQ),0<s.toks→Inv X pins σ H s→t D σ H→wpAny (model X.prog X.w) X.A (exec st X.env) (SP X pins D) X.xe s
variable{e a b o:Expr}{rest:List Expr}{pos apos cpos:Pos}{t u:TS}{te ta tb:TE}{tA tB':TT}
end
section
variable{X:Cx}{e a b o c:Expr}{es rest:List Expr}{pos apos cpos:Pos}{fe fa fb:FE}{ga gb:FT}{f g:FS}{st:Stmt}{sts:List Stmt}
end
section
variable{X:Cx}{pos:Pos}{i j:Nat}{c f x y:Str}{C:Addr}{sts:List Stmt}{g:FS}
end
section
variable{P:Program}{w:World}{K:Frag}{mg:Str→Option Value}{base:Heap}
end
section
variable{X:Cx}{pos:Pos}{c x y:Str}{i j k:Nat}{ps:List Str}
end
section
variable{X:Cx}{pos p3:Pos}{e:Expr}{fe:FE}
noncomputable def zg9(fe:FE):FA:=fun τ=>(fe τ).bind fun d=>match d with
 |.lst ds=>.ok ds
 |_=>.no
theorem Qy(hg:Gl X "list")(hm:X.mg "list" = none)(h:PDE X e fe)(he:starEach [e] X.env=(false,eval e X.env)::starEach [] X.env:=by rfl)(hpl:(backTo pos (starEach [] X.env)).any (·.1)=false:=by rfl) :
  PDF X (.Call (.Name "list" p3) [e] [] pos) (zg9 fe):=
 PE.imp (pe_callTy Zm hg hm boot_list (xI h wK he) (he:=he) (hpl:=hpl)) fun σ H Q z_=>by
  refine byc fun zG_=>?_
  obtain⟨F,τ,R,q⟩:=z_
  refine zG_ ?_
  refine tE.of R q.bind fun d v F1 H1 g x R1 r=>?_
  cases d with
  |lst ds=>
   simp only[Rep] at r
   refine byc fun zG_=>?_
   obtain⟨a,vs,rfl,e1,t⟩:=r
   refine zG_ ?_
   exact⟨a,vs,rfl,.inl (SqL.of (R1.fh _ _ e1)),fun l hl=>g l vs F1 H1 x hl t⟩
  |_=>exact g.elim
end
section
variable{X:Cx}{scope:Scope}{tn fr:List Str}{idx:List Nat}{tg iter elt:Expr}{pos:Pos}{fi:FA}{set:FG}{fo:FOb}{i p:Nat}{c:Str}
end
section
variable{X:Cx}{pos:Pos}{a b:Expr}{fe fa fb:FE}{i:Nat}{c:Str}
theorem eLd_L(σ:St)(H:Hp)(Q:VK)(h:tE X (eLd i c fe) σ H Q):tL X i c fe σ H Q:=by
 refine byc fun zG_=>?_
 obtain⟨F,τ,R,q⟩:=h
 obtain⟨o,_,q⟩:=Mf (X:=X) q.bind
 refine zG_ ?_
 have L:=wv R o
 refine⟨F,τ,R,o,q.bind.imp fun d g v F1 H1 x r=>?_⟩
 obtain⟨z,g⟩:=yE g
 exact g v (unl F1 (Lsl σ H i c)) H1 (L.back R.tt x) (Gz z r)
theorem GU{o:CmpOp}{op:D→D→Rs D}(ho:OpD X (compareOp o) op)(ha:PDL X i c a fa)(hb:PDL X i c b fb)(hm:behindInMarks o b=false):PDT X (.Compare a [o] [b] pos) (tB (eLd i c (eOp op fa fb))):=by
 obtain⟨r,h1,h2⟩:=ho
 exact(WE h1 ha hb hm).imp (Jc fun σ H Q h=>zf3 h2 σ H Q (eLd_L σ H Q h))
end
section
variable{τ:DS}{fa fb fc fe fi:FE}{fs:FA}{op:D→D→Rs D}{d x y:D}{i j k:Int}{n m:Nat}
noncomputable def getV:Option (Option Sl)→Rs D
 | some (some (.val d))=>.ok d
 |_=>.no
noncomputable def V3:Option (Option Sl)→Rs (List D)
 | some (some (.own d))=>.ok d
 |_=>.no
@[simp] theorem zB:getV (some (some (.val d)))=.ok d:=rfl
@[simp] theorem xf{ds:List D}:V3 (some (some (.own ds)))=.ok ds:=rfl
theorem zG:ze n τ=getV τ[n]?:=rfl
theorem vb:vI τ n=V3 τ[n]?:=rfl
theorem yG:eC d τ=.ok d:=rfl
theorem yc:eOp op fa fb τ=(fa τ).bind fun x=>(fb τ).bind fun y=>op x y:=rfl
theorem zM:zi τ=.ok []:=rfl
theorem zu:za fa fs τ=(fa τ).bind fun x=>(fs τ).bind fun r=>.ok (x::r):=rfl
theorem W8:uy fs τ=(fs τ).bind fun ds=>if ds.length≤sizeLine then .ok (.lst ds) else .no:=rfl
theorem J1:vx fs τ=(fs τ).bind fun ds=>if ds.length≤sizeLine then .ok (.tup ds) else .no:=rfl
theorem yA{g:List D→Rs D}:zv g fs τ=(fs τ).bind fun ds=>UN (g ds):=rfl
theorem wN{g:List D→Rs D}:yo g fs τ=(fs τ).bind g:=rfl
theorem M2{g:FT}:eIf g fa fb τ=(g τ).bind fun b=>if b=true then fa τ else fb τ:=rfl
theorem LN:zj3 fa fb τ=(fa τ).bind fun x=>(Zv x).bind fun b=>if b=true then fb τ else .ok x:=rfl
theorem U1:eOr fa fb τ=(fa τ).bind fun x=>(Zv x).bind fun b=>if b=true then .ok x else fb τ:=rfl
noncomputable def boolOf:D→Rs Bool
 |.bl b=>.ok b
 |_=>.no
@[simp] theorem zW{b:Bool}:boolOf (.bl b)=.ok b:=rfl
theorem xZ:FD.tB fe τ=(fe τ).bind boolOf:=rfl
theorem vE:vQ fe τ=(fe τ).bind Zv:=rfl
theorem vF{f g:FT}:uQ f g τ=(f τ).bind fun b=>if b=true then g τ else .ok false:=rfl
theorem uO{f g:FT}:Z9 f g τ=(f τ).bind fun b=>if b=true then .ok true else g τ:=rfl
theorem Je{f:FT}:uP f τ=(f τ).bind fun b=>.ok (!b):=rfl
theorem J2{T:String}{g:D→List D→Rs D}:U2 T g fa τ=(fa τ).bind fun d=>if XJ T d=true then g d [] else .no:=rfl
theorem M1{fl fh:FO}:eSl fe fl fh τ=(fe τ).bind fun d=>(fl τ).bind fun l=>(fh τ).bind fun u=>slD d l u:=rfl
noncomputable def Jj:D→Rs (Option Int)
 |.int i=>.ok (some i)
 |_=>.no
@[simp] theorem Vr:Jj (.int i)=.ok (some i):=rfl
theorem YX:ve fe τ=(fe τ).bind Jj:=rfl
noncomputable def Fl.thn(r:Fl)(g:FS):Fl:=match r with
 |.nx τ=>g τ
 |r=>r
@[simp] theorem yj{g:FS}:(Fl.nx τ).thn g=g τ:=rfl
@[simp] theorem Zw{g:FS}:(Fl.rt d).thn g=.rt d:=rfl
theorem zR{f g:FS}:zC f g τ=(f τ).thn g:=rfl
theorem ya:yR n fe τ=Fl.of (fe τ) fun d=>.nx (τ.set n (some (.val d))):=rfl
theorem w6:v4 n fs τ=Fl.of (fs τ) fun ds=>.nx (τ.set n (some (.own ds))):=rfl
theorem yD{g:FT}{f h:FS}:sIf g f h τ=Fl.of (g τ) fun b=>if b=true then f τ else h τ:=rfl
theorem yf:xz fe τ=Fl.of (fe τ) fun d=>.rt d:=rfl
theorem va:uD n τ=Fl.of (vI τ n) fun ds=>.rt (.lst ds):=rfl
theorem zZ:yd τ=.nx τ:=rfl
theorem vg{set:FG}{body:FS}:ug fs set body τ=Fl.of (fs τ) fun ds=>yS set body ds τ:=rfl
@[simp] theorem zU:Z2 (.rt d)=.ok d:=rfl
@[simp] theorem xJ:UN (.ok d)=.ok d:=rfl
@[simp] theorem xg:zO (.int i) (.int j)=.ok (.int (i+j)):=rfl
theorem U8{a b:Str}(h:a.length+b.length≤sizeLine):zO (.str a) (.str b)=.ok (.str (a++b)):=if_pos h
@[simp] theorem ue:Ya (.int i) (.int j)=.ok (.int (i-j)):=rfl
theorem vU(h:(-(18446744073709551616)<i∧i<18446744073709551616)∨(-(18446744073709551616)<j∧j<18446744073709551616)):vV (.int i) (.int j)=.ok (.int (i*j)):=if_pos h
theorem YZ(h:0<j):WV (.int i) (.int j)=.ok (.int (i%j)):=by
 show(if decide (0<j)=true then _ else _)=_
 rw[if_pos (by simpa using h)]
theorem Yv(h:0<j∧j<1073741824):Xi (.int i) (.int j)=.ok (.int (i / j)):=by
 show(if decide (0<j∧j<1073741824)=true then _ else _)=_
 rw[if_pos (by simpa using h)]
@[simp] theorem VN:ltI (.int i) (.int j)=.ok (.bl (decide (i<j))):=rfl
@[simp] theorem V1:gtD (.int i) (.int j)=.ok (.bl (decide (j<i))):=rfl
@[simp] theorem geD_i:geD (.int i) (.int j)=.ok (.bl (decide (j≤i))):=rfl
@[simp] theorem vw:eqD (.int i) (.int j)=.ok (.bl (i==j)):=rfl
@[simp] theorem M0{a b:Str}:eqD (.str a) (.str b)=.ok (.bl (a==b)):=rfl
@[simp] theorem Mo:neD (.int i) (.int j)=.ok (.bl (!(i==j))):=rfl
@[simp] theorem za4{a b:Str}:neD (.str a) (.str b)=.ok (.bl (!(a==b))):=rfl
@[simp] theorem Z1{a b:Str}:inD (.str a) (.str b)=.ok (.bl (Vp a b)):=rfl
theorem wD(c:Nat)(x:Str):Vp ⟨#[c]⟩ x=decide (c∈x.cps.toList):=StrLaws.found_one x c
@[simp] theorem Mz{ns:List Int}:yB [.scr ns]=.ok (.int ns.length):=rfl
@[simp] theorem vc{ds:List D}:yB [.lst ds]=.ok (.int ds.length):=rfl
theorem VS{a:Str}(h:a.length≤sizeLine):yB [.str a]=.ok (.int a.length):=if_pos h
theorem LB{ns:List Int}{a:Int}(h:atI ns k=some a):ixD (.scr ns) (.int k)=.ok (.int a):=by
 show(match atI ns k with|some d=>Rs.ok (D.int d) | none=>.no)=_
 rw[h]
theorem JQ{ds:List D}{a:D}(h:atI ds k=some a):ixD (.lst ds) (.int k)=.ok a:=by
 show(match atI ds k with|some d=>Rs.ok d|none=>.no)=_
 rw[h]
theorem Yu{a:Str}{c:Nat}(h:atI a.cps.toList k=some c)(hz:a.length≤sizeLine):ixD (.str a) (.int k)=.ok (zE c):=by
 show(match atI a.cps.toList k with|some c=>if a.length≤sizeLine then Rs.ok (D.str ⟨#[c]⟩) else .no|none=>.no)=_
 rw[h]
 exact if_pos hz
theorem Xq{α:Type}{xs:List α}{a:α}(h0:0≤k)(h:xs[k.toNat]?=some a):atI xs k=some a:=by
 have:=Vc (j:=k.toNat) h
 rwa [Int.toNat_of_nonneg h0] at this
@[simp] theorem vD{b:Bool}:Zv (.bl b)=.ok b:=rfl
theorem Go{a:Str}(h:a.length≤sizeLine):Zv (.str a)=.ok ((a.length:Int) != 0):=if_pos h
theorem yw{b:FS}{ds:List D}:wu n b ds=Z2 (b (zX n ds)):=rfl
end
theorem UZ(l:List PyData):PyData.eqvAll l []=l.isEmpty:=by cases l <;> simp[PyData.eqvAll]
theorem Lh(ns:List Int):okD (.scr ns)=true:=by
 have c:∀l:List Int,PyData.canLayAll0 (l.map PyData.int)=true:=fun l=>by
  induction l with
  |nil=>rfl
  |cons a r ih=>simp[PyData.canLayAll0,PyData.canLay0,ih]
 have d:∀l:List Int,PyData.depthAll (l.map PyData.int)=0:=fun l=>by
  induction l with
  |nil=>rfl
  |cons a r ih=>simp[PyData.depthAll,PyData.depth,ih]
 simp[okD,wa,xX,PyData.canLay0,PyData.depth,c,d]
theorem V8(ns:List Int):eqD (.scr ns) (.lst [])=.ok (.bl ns.isEmpty):=by
 have o2:okD (.lst [])=true:=by decide
 have:wW (.scr ns) (.lst [])=ns.isEmpty:=by
  simp only[wW,xX,toPys,PyData.eqv,UZ]
  cases ns <;> rfl
 simp only[eqD,Lh,o2,this,and_self,if_true]
end FD
set_option Elab.async false
set_option linter.all false
set_option maxRecDepth 100000
namespace Law
open PySem PySem.Spec PyProof.Rows L2 FD
instance tabs:FD.Tabs:=⟨[(145,88,28,("in_order" : Str) ++ ".<locals>." ++ "<lambda>")],fun c f=>(c == "Seeker" && f == "names"),fun c f=>(c == "Seeker" && f == "levels")⟩
noncomputable def Z8:FS:=(zC (sIf (tB (eOp eqD (ze 0) (uy zi))) (xz (eOp vV (eC (.int 7)) (ze 1))) yd)
  (xz (eOp zO (eOp ixD (ze 0) (eOp WV (ze 1) (yo yB (za (ze 0) zi)))) (eOp vV (eC (.int 6553)) (eOp Xi (ze 1) (yo yB (za (ze 0) zi)))))))
noncomputable def wF(ds:List D):Rs D:=wu 2 Z8 ds
noncomputable def Zp:FS:=(zC (yR 3 (eOp WV (eOp zO (eOp vV (eOp WV (zv wF (za (ze 0) (za (ze 1) zi))) (eC (.int 2147483563))) (eC (.int 69069))) (eOp vV (eC (.int 104723)) (eOp zO (ze 1) (eC (.int 1))))) (eC (.int 2147483563))))
  (zC (yR 3 (eOp WV (eOp zO (eOp vV (ze 3) (ze 3)) (eOp Xi (ze 3) (eC (.int 3)))) (eC (.int 2147483399))))
  (xz (eOp WV (eOp Xi (eOp WV (eOp zO (eOp vV (ze 3) (ze 3)) (eOp Xi (ze 3) (eC (.int 7)))) (eC (.int 2147483647))) (eC (.int 11))) (ze 2)))))
noncomputable def zr(ds:List D):Rs D:=wu 4 Zp ds
noncomputable def Z6:FS:=(zC (yR 2 (eC (.str "")))
  (zC (ug (vB (za (eOp zO (eC (.int 1)) (zv zr (za (ze 0) (za (ze 1) (za (eC (.int 10)) zi))))) zi)) (gNm 3) (yR 2 (eOp zO (ze 2) (eOp ixD (eC (.str "abcabABCab1_-./xyz")) (zv zr (za (ze 0) (za (eOp zO (eOp zO (ze 1) (eC (.int 1))) (ze 3)) (za (eC (.int 18)) zi))))))))
  (xz (ze 2))))
noncomputable def xB(ds:List D):Rs D:=wu 4 Z6 ds
noncomputable def uC:FS:=(zC (v4 3 (wG 1 [0,1] (vB (za (zv zr (za (ze 0) (za (ze 1) (za (eOp zO (ze 2) (eC (.int 1))) zi)))) zi)) (gNm 0) (fun _=>.ok true) (zv xB (za (ze 1) (za (eOp zO (eOp zO (ze 2) (eC (.int 1))) (eOp vV (eC (.int 12)) (ze 0))) zi)))))
  (zC (sIf (uQ (tB (eOp gtD (Zl 3) (eC (.int 1)))) (tB (eOp eqD (zv zr (za (ze 0) (za (eOp zO (ze 1) (eC (.int 12))) (za (eC (.int 5)) zi)))) (eC (.int 0))))) (Qq 3 (eC (.int 0)) (Gb 3 (xQ (eC (.int 1))))) yd)
  (uD 3)))
noncomputable def xL(ds:List D):Rs D:=wu 4 uC ds
noncomputable def Z7:FS:=(xz (eOp inD (ze 0) (eC (.str "_-./"))))
noncomputable def xC(ds:List D):Rs D:=wu 1 Z7 ds
noncomputable def Zo:FS:=(zC (yR 4 (eC (.str "")))
  (zC (yR 5 (eC (.int 0)))
  (zC (ug (vB (za (zv zr (za (ze 0) (za (ze 1) (za (eOp zO (ze 3) (eC (.int 1))) zi)))) zi)) (gNm 6) (zC (yR 5 (yo j9 (za (eOp Ya (yo yB (za (ze 2) zi)) (eC (.int 1))) (za (eOp zO (ze 5) (zv zr (za (ze 0) (za (eOp zO (eOp zO (ze 1) (eC (.int 1))) (eOp vV (eC (.int 3)) (ze 6))) (za (eC (.int 3)) zi))))) zi))))
  (zC (yR 7 (U2 "str" loD (eOr (eSl (ze 2) (ve (ze 5)) (ve (eOp zO (ze 5) (eC (.int 1))))) (eC (.str "a")))))
  (zC (yR 5 (eOp zO (ze 5) (eC (.int 1))))
  (zC (sIf (tB (eOp eqD (zv zr (za (ze 0) (za (eOp zO (eOp zO (ze 1) (eC (.int 2))) (eOp vV (eC (.int 3)) (ze 6))) (za (eC (.int 5)) zi)))) (eC (.int 0)))) (yR 7 (eOp ixD (eC (.str "abAB1c")) (zv zr (za (ze 0) (za (eOp zO (eOp zO (ze 1) (eC (.int 3))) (eOp vV (eC (.int 3)) (ze 6))) (za (eC (.int 6)) zi)))))) yd)
  (sIf (uP (vQ (zv xC (za (ze 7) zi)))) (yR 4 (eOp zO (ze 4) (ze 7))) yd))))))
  (xz (ze 4)))))
noncomputable def xK(ds:List D):Rs D:=wu 8 Zo ds
noncomputable def vO:FS:=(zC (TC 0 "Seeker" "names" (zg9 (ze 1)))
  (zC (sAt 0 "Seeker" "query" (eC (.str "")))
  (zC (Jn 0 "Seeker" "levels" (VO (vB (za (yo yB (za (ze 1) zi)) zi))))
  (sAt 0 "Seeker" "looks" (eC (.int 0))))))
noncomputable def z8(fs:Fs)(ds:List D):Rs (D×Fs):=jW 2 0 "Seeker" vO fs ds
noncomputable def Ws:FS:=(X1 (wG 1 [0] (ZM (ze 1)) (gNm 0) (tB (eOp neD (ze 0) (ze 1))) (ze 0)))
noncomputable def xN(ds:List D):Rs (List D):=runN 2 Ws ds
noncomputable def QR(ds:List D):Rs D:=(xN ds).bind fun xs=>.ok (.lst xs)
noncomputable def ju:FS:=(zC (sIf (tB (eLd 0 "Seeker" (eOp YY (ze 1) (Ub 0 "Seeker" "levels" (eC (.int 0)))))) sNo yd)
  (Jo 0 1 "Seeker" "levels" xN))
noncomputable def xt(fs:Fs)(ds:List D):Rs (D×Fs):=jW 2 0 "Seeker" ju fs ds
noncomputable def uG:FS:=(xz (eOr (eOp inD (ze 0) (eC (.str "abcdefghijklmnopqrstuvwxyz"))) (eOr (eOp inD (ze 0) (eC (.str "ABCDEFGHIJKLMNOPQRSTUVWXYZ"))) (eOp inD (ze 0) (eC (.str "0123456789"))))))
noncomputable def yQ(ds:List D):Rs D:=wu 1 uG ds
noncomputable def J5:FS:=(xz (eOr (eOp eqD (ze 0) (ze 1)) (zj3 (eOp inD (ze 0) (eC (.str "abcdefghijklmnopqrstuvwxyz"))) (eOp eqD (U2 "str" upD (ze 0)) (ze 1)))))
noncomputable def xW(ds:List D):Rs D:=wu 2 J5 ds
noncomputable def vN:FS:=(zC (v4 2 (fun τ=>(zi τ).bind fun ds=>if ds.length≤sizeLine then .ok ds else .no))
  (zC (ug (vB (za (yo yB (za (ze 1) zi)) zi)) (gNm 3) (sIf (uQ (tB (eOp ltI (Zl 2) (yo yB (za (ze 0) zi)))) (vQ (zv xW (za (eOp ixD (ze 0) (Zl 2)) (za (eOp ixD (ze 1) (ze 3)) zi))))) (Xy 2 (ze 3)) yd))
  (uD 2)))
noncomputable def yN(ds:List D):Rs D:=wu 4 vN ds
noncomputable def Tb:FS:=(xz (eOp eqD (yo yB (za (zv yN (za (ze 0) (za (ze 1) zi))) zi)) (yo yB (za (ze 0) zi))))
noncomputable def wU(ds:List D):Rs D:=wu 2 Tb ds
noncomputable def uJ:FS:=(zC (sIf (Z9 (tB (eOp neD (yo yB (za (ze 1) zi)) (eC (.int 1)))) (uP (vQ (zv yQ (za (ze 1) zi))))) sNo yd)
  (zC (sIf (tB (eOp geD (yo yB (za (eAt 0 "Seeker" "query") zi)) (eC (.int 8)))) sNo yd)
  (zC (sAt 0 "Seeker" "query" (eOp zO (eAt 0 "Seeker" "query") (ze 1)))
  (jV 0 2 "Seeker" "levels" "looks" (xQ (eC (.int 1))) (fun τ=>(wG 1 [0] (Wg 0 "Seeker" "levels") (gNm 0) (vQ (zv wU (za (eAt 1 "Seeker" "query") (za (U3 1 "Seeker" "names" (ze 0)) zi)))) (ze 0)) (QK 0 τ)) (jU (Wl 0 "Seeker" "levels" (xQ (eC (.int 1)))))))))
noncomputable def yn(fs:Fs)(ds:List D):Rs (D×Fs):=jW 3 0 "Seeker" uJ fs ds
noncomputable def Zr:FS:=(zC (yR 2 (Ua 0 "Seeker" "names"))
  (zC (Vt 0 "Seeker" "names" (ze 1))
  (zC (YD 0 "Seeker" "levels" (eC (.int 0)) (ze 2))
  (zC (ug (Q5 (za (eC (.int 1)) (za (eOp zO (yo yB (za (eAt 0 "Seeker" "query") zi)) (eC (.int 1))) zi))) (gNm 3) (zC (X2 0 "Seeker" "looks" (eC (.int 1)))
  (zC (sIf (uP (vQ (zv wU (za (eSl (eAt 0 "Seeker" "query") j7 (ve (ze 3))) (za (ze 1) zi))))) Uv yd)
  (YD 0 "Seeker" "levels" (ze 3) (ze 2)))))
  (jU (ze 2))))))
noncomputable def xM(fs:Fs)(ds:List D):Rs (D×Fs):=jW 4 0 "Seeker" Zr fs ds
noncomputable def uI:FS:=(xz (eAt 0 "Seeker" "looks"))
noncomputable def yC(fs:Fs)(ds:List D):Rs D:=YF 1 0 "Seeker" uI fs ds
noncomputable def u7:FS:=(xz (eAt 0 "Seeker" "query"))
noncomputable def yk(fs:Fs)(ds:List D):Rs D:=YF 1 0 "Seeker" u7 fs ds
noncomputable def ud:FS:=(xz (fun τ=>(W6 0 "Seeker" "levels" (xQ (eC (.int 1))) τ).bind fun ds=>.ok (.lst ds)))
noncomputable def zN(fs:Fs)(ds:List D):Rs D:=YF 1 0 "Seeker" ud fs ds
noncomputable def jv:FS:=(zC (sIf (tB (eOp eqD (yo yB (za (eAt 0 "Seeker" "query") zi)) (eC (.int 0)))) sNo yd)
  (zC (sAt 0 "Seeker" "query" (eSl (eAt 0 "Seeker" "query") j7 (ve (xQ (eC (.int 1))))))
  (zC (Jm 0 "Seeker" "levels")
  (jU (Wl 0 "Seeker" "levels" (xQ (eC (.int 1))))))))
noncomputable def zQ(fs:Fs)(ds:List D):Rs (D×Fs):=jW 1 0 "Seeker" jv fs ds
noncomputable def jK:FS:=(xz (Xk [0] (ze 1) (vx (za (xQ (eOp ixD (ze 0) (eC (.int 0)))) (za (yo yB (za (eOp ixD (ze 1) (eOp ixD (ze 0) (eC (.int 1)))) zi)) (za (eOp ixD (ze 0) (eC (.int 1))) zi))))))
noncomputable def wd(ds:List D):Rs D:=wu 2 jK ds
noncomputable def uB:FS:=(X1 (fSl (zv wd (za (ze 0) (za (ze 1) zi))) j7 (ve (yo Y2 (za (ze 2) (za (eC (.int 0)) zi))))))
noncomputable def yW(ds:List D):Rs (List D):=runN 3 uB ds
noncomputable def WX(ds:List D):Rs D:=(yW ds).bind fun xs=>.ok (.lst xs)
noncomputable def vA:FS:=(zC (sIf (tB (eOp eqD (ze 1) (eC (.int 0)))) (xz (eC (.int 8))) yd)
  (zC (yR 2 (eOp ixD (ze 0) (eOp Ya (ze 1) (eC (.int 1)))))
  (zC (sIf (tB (eOp inD (ze 2) (eC (.str "_-./")))) (xz (eC (.int 6))) yd)
  (zC (sIf (uQ (tB (eOp inD (eOp ixD (ze 0) (ze 1)) (eC (.str "ABCDEFGHIJKLMNOPQRSTUVWXYZ")))) (Z9 (tB (eOp inD (ze 2) (eC (.str "abcdefghijklmnopqrstuvwxyz")))) (tB (eOp inD (ze 2) (eC (.str "0123456789")))))) (xz (eC (.int 5))) yd)
  (xz (eC (.int 0)))))))
noncomputable def yF(ds:List D):Rs D:=wu 3 vA ds
noncomputable def Zn:FS:=(zC (yR 3 (eIf (tB (eOp eqD (eOp ixD (ze 1) (ze 2)) (ze 0))) (eC (.int 1)) (eC (.int 0))))
  (xz (eOp zO (eOp zO (eC (.int 10)) (zv yF (za (ze 1) (za (ze 2) zi)))) (ze 3))))
noncomputable def yx(ds:List D):Rs D:=wu 4 Zn ds
noncomputable def vM:FS:=(xz (fun τ=>((wG 1 [0,1] (vB (za (yo yB (za (ze 1) zi)) zi)) (gNm 0) (vQ (zv xW (za (ze 1) (za (eOp ixD (ze 2) (ze 0)) zi)))) (vx (za (zv yx (za (ze 1) (za (ze 2) (za (ze 0) zi)))) (za (uy (za (ze 0) zi)) zi)))) τ).bind fun ds=>.ok (.lst ds)))
noncomputable def yi(ds:List D):Rs D:=wu 2 vM ds
noncomputable def uH:FS:=(zC (yR 1 (eC .non))
  (zC (ug (ZM (ze 0)) (gNm 2) (sIf (Z9 (tB (eOp isD (ze 1) (eC .non))) (tB (eOp gtD (eOp ixD (ze 2) (eC (.int 0))) (eOp ixD (ze 1) (eC (.int 0)))))) (yR 1 (ze 2)) yd))
  (xz (ze 1))))
noncomputable def zT(ds:List D):Rs D:=wu 3 uH ds
noncomputable def jr:FS:=(zC (yR 2 (eOp Ya (eOp Ya (ze 1) (ze 0)) (eC (.int 1))))
  (zC (sIf (tB (eOp eqD (ze 2) (eC (.int 0)))) (xz (eC (.int 7))) yd)
  (xz (xQ (yo j9 (za (ze 2) (za (eC (.int 5)) zi)))))))
noncomputable def xr(ds:List D):Rs D:=wu 3 jr ds
noncomputable def u6:FS:=(xz (fun τ=>((wG 1 [0] (ZM (ze 1)) (gNm 0) (tB (eOp gtD (eOp ixD (eOp ixD (ze 0) (eC (.int 1))) (eC (.int 0))) (ze 1))) (vx (za (eOp zO (eOp ixD (ze 0) (eC (.int 0))) (zv xr (za (ze 1) (za (eOp ixD (eOp ixD (ze 0) (eC (.int 1))) (eC (.int 0))) zi)))) (za (eOp ixD (ze 0) (eC (.int 1))) zi)))) τ).bind fun ds=>.ok (.lst ds)))
noncomputable def yH(ds:List D):Rs D:=wu 2 u6 ds
noncomputable def vy:FS:=(zC (v4 3 (fun τ=>(zi τ).bind fun ds=>if ds.length≤sizeLine then .ok ds else .no))
  (zC (ug (vB (za (yo yB (za (ze 1) zi)) zi)) (gNm 4) (sIf (vQ (zv xW (za (ze 0) (za (eOp ixD (ze 1) (ze 4)) zi)))) (zC (yR 5 (zv zT (za (zv yH (za (ze 4) (za (ze 2) zi))) zi)))
  (sIf (tB (eOp uw (ze 5) (eC .non))) (Xy 3 (vx (za (eOp zO (zv yx (za (ze 0) (za (ze 1) (za (ze 4) zi)))) (eOp ixD (ze 5) (eC (.int 0)))) (za (eOp zO (uy (za (ze 4) zi)) (eOp ixD (ze 5) (eC (.int 1)))) zi)))) yd)) yd))
  (uD 3)))
noncomputable def xc(ds:List D):Rs D:=wu 6 vy ds
noncomputable def jt:FS:=(xz (xQ (yo j9 (za (ze 0) (za (eC (.int 3)) zi)))))
noncomputable def yV(ds:List D):Rs D:=wu 1 jt ds
noncomputable def U6:FS:=(zC (sIf (tB (eOp eqD (yo yB (za (ze 0) zi)) (eC (.int 0)))) (xz (vx (za (eC (.int 0)) (za (uy zi) zi)))) yd)
  (zC (yR 2 (zv yi (za (eOp ixD (ze 0) (xQ (eC (.int 1)))) (za (ze 1) zi))))
  (zC (ug (Q4 (za (eOp Ya (yo yB (za (ze 0) zi)) (eC (.int 2))) (za (xQ (eC (.int 1))) (za (xQ (eC (.int 1))) zi)))) (gNm 3) (yR 2 (zv xc (za (eOp ixD (ze 0) (ze 3)) (za (ze 1) (za (ze 2) zi))))))
  (xz (zv zT (za (fun τ=>((wG 1 [] (ZM (ze 2)) (gNm 0) (fun _=>.ok true) (vx (za (eOp zO (eOp ixD (ze 0) (eC (.int 0))) (zv yV (za (eOp ixD (eOp ixD (ze 0) (eC (.int 1))) (eC (.int 0))) zi))) (za (eOp ixD (ze 0) (eC (.int 1))) zi)))) τ).bind fun ds=>.ok (.lst ds)) zi))))))
noncomputable def vW(ds:List D):Rs D:=wu 4 U6 ds
noncomputable def vz:FS:=(zC (v4 3 (fun τ=>(zi τ).bind fun ds=>if ds.length≤sizeLine then .ok ds else .no))
  (zC (ug (ZM (ze 2)) (gNm 4) (zC (yR 5 (zv vW (za (ze 1) (za (eOp ixD (ze 0) (ze 4)) zi))))
  (sIf (tB (eOp uw (ze 5) (eC .non))) (Xy 3 (vx (za (eOp ixD (ze 5) (eC (.int 0))) (za (ze 4) zi)))) yd)))
  (uD 3)))
noncomputable def yI(ds:List D):Rs D:=wu 6 vz ds
noncomputable def Zq:FS:=(xz (fun τ=>(W7 0 "Seeker" yW (za (V9 0 "Seeker" "names") (za (zv yI (za (V9 0 "Seeker" "names") (za (eAt 0 "Seeker" "query") (za (Ub 0 "Seeker" "levels" (xQ (eC (.int 1)))) zi)))) (za (ze 1) zi))) τ).bind fun ds=>.ok (.lst ds)))
noncomputable def z7(fs:Fs)(ds:List D):Rs D:=YF 2 0 "Seeker" Zq fs ds
noncomputable def zb3:FS:=(zC (yR 1 (zv xL (za (ze 0) (za (eC (.int 0)) (za (eC (.int 4)) zi)))))
  (zC (yR 2 (zv xK (za (ze 0) (za (eC (.int 80)) (za (eOp ixD (eOp zO (ze 1) (uy (za (eC (.str "abc")) zi))) (zv zr (za (ze 0) (za (eC (.int 79)) (za (eOp zO (yo yB (za (ze 1) zi)) (eC (.int 1))) zi))))) (za (eC (.int 5)) zi))))))
  (zC (ZS 3 "Seeker" z8 (za (ze 1) zi))
  (zC (ZS 4 "Seeker" z8 (za (uy zi) zi))
  (zC (yR 5 (eC (.int 0)))
  (zC (yR 6 (eC (.int 0)))
  (zC (ug (MQ (za (ze 2) zi)) (gPr 7 8) (zC (uS (uQ (tB (eOp ltI (ze 5) (yo yB (za (ze 1) zi)))) (tB (eOp eqD (zv zr (za (ze 0) (za (eOp zO (eOp zO (eC (.int 120)) (eOp vV (eC (.int 10)) (ze 7))) (ze 5)) (za (eC (.int 2)) zi)))) (eC (.int 0))))) (zC (x9 (xV 4 "Seeker" "add" xM (za (eOp ixD (ze 1) (ze 5)) zi)))
  (yR 5 (eOp zO (ze 5) (eC (.int 1))))))
  (zC (x9 (xV 3 "Seeker" "letter" yn (za (ze 8) zi)))
  (zC (x9 (xV 4 "Seeker" "letter" yn (za (ze 8) zi)))
  (zC (yR 6 (eOp zO (ze 6) (eC (.int 1))))
  (sIf (tB (eOp eqD (zv zr (za (ze 0) (za (eOp zO (eC (.int 180)) (ze 7)) (za (eC (.int 4)) zi)))) (eC (.int 0)))) (zC (x9 (xV 3 "Seeker" "back" zQ zi))
  (x9 (xV 4 "Seeker" "back" zQ zi))) yd))))))
  (zC (uS (tB (eOp ltI (ze 5) (yo yB (za (ze 1) zi)))) (zC (x9 (xV 4 "Seeker" "add" xM (za (eOp ixD (ze 1) (ze 5)) zi)))
  (yR 5 (eOp zO (ze 5) (eC (.int 1))))))
  (zC (sIf (Z9 (tB (eOp neD (yz 3 "Seeker" "typed" yk zi) (yz 4 "Seeker" "typed" yk zi))) (Z9 (tB (eOp neD (yz 3 "Seeker" "fitting" zN zi) (yz 4 "Seeker" "fitting" zN zi))) (tB (eOp neD (yz 3 "Seeker" "now" z7 (za (eC (.int 9)) zi)) (yz 4 "Seeker" "now" z7 (za (eC (.int 9)) zi)))))) (xz (eC (.bl false))) yd)
  (zC (sIf (tB (eOp gtD (yz 4 "Seeker" "looked" yC zi) (eOp vV (yo yB (za (ze 1) zi)) (eOp zO (ze 6) (yo yB (za (ze 2) zi)))))) (xz (eC (.bl false))) yd)
  (zC (sIf (tB (eOp eqD (ze 1) (uy zi))) (xz (eOp eqD (yz 4 "Seeker" "looked" yC zi) (eC (.int 0)))) yd)
  (zC (yR 9 (zv zr (za (ze 0) (za (eC (.int 190)) (za (yo yB (za (ze 1) zi)) zi)))))
  (zC (x9 (xV 3 "Seeker" "hide" xt (za (ze 9) zi)))
  (zC (x9 (xV 4 "Seeker" "hide" xt (za (ze 9) zi)))
  (zC (uS (tB (eOp neD (yz 3 "Seeker" "typed" yk zi) (eC (.str "")))) (GB (Mg (oB (QL neD (xV 3 "Seeker" "back" zQ zi) (xV 4 "Seeker" "back" zQ zi))) (G9 (tB (eOp neD (yz 3 "Seeker" "now" z7 (za (eC (.int 9)) zi)) (yz 4 "Seeker" "now" z7 (za (eC (.int 9)) zi)))))) (xz (eC (.bl false))) yd))
  (xz (eOp eqD (yz 3 "Seeker" "fitting" zN zi) (fun τ=>((wG 1 [9] (vB (za (yo yB (za (ze 1) zi)) zi)) (gNm 0) (tB (eOp neD (ze 0) (ze 1))) (ze 0)) τ).bind fun ds=>.ok (.lst ds)))))))))))))))))))
noncomputable def JI(ds:List D):Rs D:=wu 10 zb3 ds
noncomputable def Z4(ns:List Int)(k:Int):Int:=if ns=[] then 7*k else ns.getD (k%ns.length).toNat 0+6553*(k / ns.length)
theorem zK:sizeLine=16777216:=sizeLine_eq
theorem LO(ns:List Int)(k:Int)(h63:ns.length≤63)(h0:0≤k):wF [.scr ns,.int k]=.ok (.int (Z4 ns k)):=by
 have st:zX 2 [D.scr ns,.int k]=[some (.val (.scr ns)),some (.val (.int k))]:=rfl
 unfold wF Z8
 rw[yw,st]
 simp only[zR,yD,xZ,yc,zG,W8,zM,getElem?_cons_zero,zB,Rs.bind_ok,length_nil,zero_le,if_true,V8,zW,Fl.of_ok]
 cases ns with
 |nil=>
  simp only[List.isEmpty_nil,if_true,yf,yc,yG,zG,getElem?_cons_zero,getElem?_cons_succ,zB,Rs.bind_ok,vU (i:=7) (j:=k) (.inl ⟨by decide,by decide⟩),Fl.of_ok,Zw,zU,Z4]
 |cons a r=>
  have hl:(0:Int)<((a::r).length:Int):=by simp only[length_cons];lia
  have hm0:=emod_nonneg k (show((a::r).length:Int)≠0 by lia)
  have hm1:=Int.emod_lt_of_pos k hl
  have hat:atI (a::r) (k%((a::r).length:Int))=some ((a::r).getD (k%((a::r).length:Int)).toNat 0):=by
   refine Xq hm0 ?_
   have:(k%((a::r).length:Int)).toNat<(a::r).length:=by lia
   rw[getD_eq_getElem?_getD,getElem?_eq_getElem this];rfl
  have hdv:Xi (.int k) (.int ((a::r).length:Int))=.ok (.int (k / ((a::r).length:Int))):=Yv ⟨hl,by lia⟩
  have hmd:WV (.int k) (.int ((a::r).length:Int))=.ok (.int (k%((a::r).length:Int))):=YZ hl
  have hml:=vU (i:=6553) (j:=k / ((a::r).length:Int)) (.inl ⟨by decide,by decide⟩)
  simp only[List.isEmpty_cons,Bool.false_eq_true,if_false,zZ,yj,yf,yc,yG,zG,wN,zu,zM,getElem?_cons_zero,getElem?_cons_succ,zB,Rs.bind_ok,Mz,hmd,hdv,hml,LB hat,xg,Fl.of_ok,zU]
  simp[Z4]
noncomputable def d1(ns:List Int)(k:Int):Int:=(Z4 ns k%2147483563*69069+104723*(k+1))%2147483563
noncomputable def d2(ns:List Int)(k:Int):Int:=(d1 ns k*d1 ns k+d1 ns k / 3)%2147483399
noncomputable def xR(ns:List Int)(k m:Int):Int:=(d2 ns k*d2 ns k+d2 ns k / 7)%2147483647 / 11%m
theorem wz(ns:List Int)(k m:Int)(h63:ns.length≤63)(h0:0≤k)(hk:k<1000000)(hm:0<m):zr [.scr ns,.int k,.int m]=.ok (.int (xR ns k m)):=by
 have st:zX 4 [D.scr ns,.int k,.int m]=[some (.val (.scr ns)),some (.val (.int k)),some (.val (.int m)),none]:=rfl
 have b1:0≤d1 ns k∧d1 ns k<2147483563:=⟨emod_nonneg _ (by decide),Int.emod_lt_of_pos _ (by decide)⟩
 have b2:0≤d2 ns k∧d2 ns k<2147483399:=⟨emod_nonneg _ (by decide),Int.emod_lt_of_pos _ (by decide)⟩
 have c0:=Int.emod_lt_of_pos (Z4 ns k) (show(0:Int)<2147483563 by decide)
 have c1:=emod_nonneg (Z4 ns k) (show(2147483563:Int)≠0 by decide)
 have q1:=vU (i:=Z4 ns k%2147483563) (j:=69069) (.inr ⟨by decide,by decide⟩)
 have q2:=vU (i:=104723) (j:=k+1) (.inl ⟨by decide,by decide⟩)
 have q3:=vU (i:=d1 ns k) (j:=d1 ns k) (.inl ⟨by lia,by lia⟩)
 have q4:=vU (i:=d2 ns k) (j:=d2 ns k) (.inl ⟨by lia,by lia⟩)
 have e1:(Z4 ns k%2147483563*69069+104723*(k+1))%2147483563=d1 ns k:=rfl
 have e2:(d1 ns k*d1 ns k+d1 ns k / 3)%2147483399=d2 ns k:=rfl
 have m1:=fun i=>YZ (i:=i) (j:=2147483563) (by decide)
 have m2:=fun i=>YZ (i:=i) (j:=2147483399) (by decide)
 have m3:=fun i=>YZ (i:=i) (j:=2147483647) (by decide)
 have m4:=fun i=>YZ (i:=i) (j:=m) hm
 have f3:=fun i=>Yv (i:=i) (j:=3) ⟨by decide,by decide⟩
 have f7:=fun i=>Yv (i:=i) (j:=7) ⟨by decide,by decide⟩
 have f11:=fun i=>Yv (i:=i) (j:=11) ⟨by decide,by decide⟩
 unfold zr Zp
 rw[yw,st]
 simp only[zR,ya,yf,yc,zG,yG,yA,zu,zM,getElem?_cons_zero,getElem?_cons_succ,zB,Rs.bind_ok,LO ns k h63 h0,xJ,m1,q1,xg,q2,e1,Fl.of_ok,yj,set_cons_succ,set_cons_zero,q3,f3,m2,e2,q4,f7,m3,f11,m4,zU]
 rfl
theorem wZ(ns:List Int)(k:Int){m:Int}(hm:0<m):0≤xR ns k m∧xR ns k m<m:=⟨emod_nonneg _ (by lia),Int.emod_lt_of_pos _ hm⟩
end Law
set_option Elab.async false
set_option linter.all false
namespace FD
open PySem PySem.Spec PyProof.Rows L2
theorem Wd{set:FG}{body:FS}(f:Nat→D)(S:Nat→DS):∀(m j:Nat),(∀k,j≤k→k<j+m→∃τ1,set (f k) (S k)=.ok τ1∧body τ1=.nx (S (k+1)))→yS set body ((List.range' j m).map f) (S j)=.nx (S (j+m)):=by
 intro l_
 induction l_ with
 |zero=>
  rintro j _
  exact rfl
 |succ m ih_=>
  rintro j h
  obtain⟨τ1,h1,h2⟩:=h j (le_refl _) (by lia)
  rw[range'_succ,map_cons,yS,h1,Fl.of_ok]
  simp only[h2]
  rw[ih_ (j+1) fun k hk hk2=>h k (by lia) (by lia)]
  congr 2;lia
theorem UT{set:FG}{body:FS}(f:Nat→D)(S:Nat→DS)(n:Nat)(h:∀k,k<n→∃τ1,set (f k) (S k)=.ok τ1∧body τ1=.nx (S (k+1))):yS set body ((List.range n).map f) (S 0)=.nx (S n):=by
 have:=Wd f S n 0 fun k _ hk=>h k (by lia)
 rw[zero_add] at this
 rwa [range_eq_range']
theorem WC{fs:FA}{τ:DS}{j:Int}(h:fs τ=.ok [.int j])(h1 : -(2 ^ 62)≤j)(h2:j<2 ^ 62):vB fs τ=.ok (uK 0 j.toNat):=by
 unfold vB
 rw[h]
 simp only[Rs.bind_ok,UW]
 rw[if_pos ⟨h1,h2⟩]
theorem Jh(a:List Nat)(c:Nat):(⟨a.toArray⟩:Str)++(⟨#[c]⟩:Str)=⟨(a++[c]).toArray⟩:=by
 show Str.mk _=_
 simp
theorem jJ{n:Nat}{d:D}{τ:DS}:gNm n d τ=.ok (τ.set n (some (.val d))):=rfl
end FD
namespace Law
open PySem PySem.Spec PyProof.Rows L2 FD
noncomputable def A18:List Nat:=[97,98,99,97,98,65,66,67,97,98,49,95,45,46,47,120,121,122]
noncomputable def Wb(ns:List Int)(a:Int):Nat:=(1+xR ns a 10).toNat
noncomputable def Mr(ns:List Int)(a:Int)(k:Nat):Nat:=A18.getD (xR ns (a+1+k) 18).toNat 0
noncomputable def vK(ns:List Int)(a:Int)(n:Nat):List Nat:=(List.range n).map (Mr ns a)
theorem a18:("abcabABCab1_-./xyz" : Str).cps.toList=A18:=by decide +kernel
theorem Ln(ns:List Int)(a:Int)(h63:ns.length≤63)(h0:0≤a)(ha:a<900000):xB [.scr ns,.int a]=.ok (.str ⟨(vK ns a (Wb ns a)).toArray⟩):=by
 have st:zX 4 [D.scr ns,.int a]=[some (.val (.scr ns)),some (.val (.int a)),none,none]:=rfl
 have dl:=wZ ns a (m:=10) (by decide)
 unfold xB Z6
 rw[yw,st,zR,ya,yG,Fl.of_ok,yj,zR,vg]
 have r1:=WC (fs:=za (eOp zO (eC (.int 1)) (zv zr (za (ze 0) (za (ze 1) (za (eC (.int 10)) zi))))) zi) (τ:=[some (.val (.scr ns)),some (.val (.int a)),some (.val (.str "")),none]) (j:=1+xR ns a 10)
  (by simp only[zu,zM,yc,yG,yA,zG,getElem?_cons_zero,getElem?_cons_succ,zB,Rs.bind_ok,wz ns a 10 h63 h0 (by lia) (by decide),xJ,xg]) (by lia) (by lia)
 simp only[set_cons_succ,set_cons_zero]
 rw[r1,Fl.of_ok]
 let S:Nat→DS:=fun k=>[some (.val (.scr ns)),some (.val (.int a)),some (.val (.str ⟨(vK ns a k).toArray⟩)),if k=0 then none else some (.val (.int ((k:Int)-1)))]
 have s0:S 0=[some (.val (.scr ns)),some (.val (.int a)),some (.val (.str "")),none]:=by
  simp only[S,vK,List.range_zero,map_nil,if_true]
  rfl
 rw[← s0]
 have lp:=UT (set:=gNm 3) (body:=(yR 2 (eOp zO (ze 2) (eOp ixD (eC (.str "abcabABCab1_-./xyz")) (zv zr (za (ze 0) (za (eOp zO (eOp zO (ze 1) (eC (.int 1))) (ze 3)) (za (eC (.int 18)) zi)))))))) (fun (k:Nat)=>D.int (0+k)) S (1+xR ns a 10).toNat fun k hk=>by
  refine⟨_,jJ,?_⟩
  have hk':(k:Int)<20:=by lia
  have dk:=wZ ns (a+1+(0+(k:Int))) (m:=18) (by decide)
  have hd:=wz ns (a+1+(0+(k:Int))) 18 h63 (by lia) (by lia) (by decide)
  have hix:=Yu (a := "abcabABCab1_-./xyz") (k:=xR ns (a+1+(0+(k:Int))) 18) (c:=A18.getD (xR ns (a+1+(0+(k:Int))) 18).toNat 0) (Xq dk.1 (by
   rw[a18]
   have:(xR ns (a+1+(0+(k:Int))) 18).toNat<A18.length:=by
    have:A18.length=18:=rfl
    lia
   rw[getD_eq_getElem?_getD,getElem?_eq_getElem this];rfl)) (by decide +kernel)
  have hadd:=U8 (a:=⟨(vK ns a k).toArray⟩) (b:=⟨#[A18.getD (xR ns (a+1+(0+(k:Int))) 18).toNat 0]⟩) (by
   show(vK ns a k).toArray.size+1≤sizeLine
   rw[zK,size_toArray]
   simp only[vK,length_map,length_range];lia)
  simp only[S,set_cons_succ,set_cons_zero,ya,yc,yG,yA,zu,zM,zG,getElem?_cons_zero,getElem?_cons_succ,zB,Rs.bind_ok,xg,hd,xJ,hix,zE,hadd,Fl.of_ok,Jh]
  have e1:vK ns a k++[A18.getD (xR ns (a+1+(0+(k:Int))) 18).toNat 0]=vK ns a (k+1):=by
   simp only[vK,range_succ,map_append,map_cons,map_nil,Mr,Int.zero_add]
  rw[e1]
  simp
 unfold uK
 rw[lp,yj]
 simp only[S,yf,zG,getElem?_cons_zero,getElem?_cons_succ,zB,Fl.of_ok,zU]
 rfl
end Law
set_option Elab.async false
set_option linter.all false
namespace FD
open PySem PySem.Spec PyProof.Rows L2
theorem VP{set:FG}{body:FS}(f:Nat→D)(I:Nat→DS→Prop):∀(m j:Nat) (τ:DS),I j τ→(∀k τ,j≤k→k<j+m→I k τ→∃τ1 τ2,set (f k) τ=.ok τ1∧body τ1=.nx τ2∧I (k+1) τ2)→∃τ',yS set body ((List.range' j m).map f) τ=.nx τ'∧I (j+m) τ':=by
 intro l_
 induction l_ with
 |zero=>
  rintro j τ h _
  exact⟨τ,rfl,h⟩
 |succ m ih_=>
  rintro j τ h hs
  refine byc fun zG_=>?_
  obtain⟨τ1,τ2,h1,h2,h3⟩:=hs j τ (le_refl _) (by lia) h
  obtain⟨τ',h4,h5⟩:=ih_ (j+1) τ2 h3 fun k τ hk hk2=>hs k τ (by lia) (by lia)
  refine zG_ ?_
  refine⟨τ',?_,by rw[show j+(m+1)=j+1+m by lia];exact h5⟩
  rw[range'_succ,map_cons,yS,h1,Fl.of_ok]
  simp only[h2,h4]
theorem ZI{set:FG}{body:FS}(f:Nat→D)(I:Nat→DS→Prop)(n:Nat)(τ:DS)(h0:I 0 τ)(h:∀k τ,k<n→I k τ→∃τ1 τ2,set (f k) τ=.ok τ1∧body τ1=.nx τ2∧I (k+1) τ2):∃τ',yS set body ((List.range n).map f) τ=.nx τ'∧I n τ':=by
 obtain⟨τ',h1,h2⟩:=VP f I n 0 τ h0 fun k τ _ hk hi=>h k τ (by lia) hi
 rw[zero_add] at h2
 exact⟨τ',by rw[range_eq_range'];exact h1,h2⟩
end FD
namespace Law
open PySem PySem.Spec PyProof.Rows L2 FD
noncomputable def QS:List Nat:=[97,98,99,120,121,122,65,66,49]
noncomputable def MK:List Nat:=[95,45,46,47]
theorem QP:("_-./" : Str).cps.toList=MK:=by decide +kernel
theorem Lo(c:Nat):xC [zE c]=.ok (.bl (decide (c∈MK))):=by
 have st:zX 1 [zE c]=[some (.val (zE c))]:=rfl
 unfold xC Z7
 rw[yw,st]
 simp only[yf,yc,zG,yG,getElem?_cons_zero,zB,Rs.bind_ok,zE,Z1,wD,QP,Fl.of_ok,zU]
theorem Gx(x:List Nat){i j:Int}(h0:0≤i)(h1:i≤j)(h2:j≤x.length):Txt.slice (⟨x.toArray⟩:Str) (some i) (some j)=⟨((x.drop i.toNat).take (j-i).toNat).toArray⟩:=by
 have:=slice_closesL (x:=⟨x.toArray⟩) (i:=i) (j:=j) h0 h1 (by show j≤((x.toArray.size:Nat):Int);simpa using h2)
 exact eq_of_beq this
theorem Qn(x:List Nat)(p:Nat)(hp:p<x.length):Txt.slice (⟨x.toArray⟩:Str) (some (p:Int)) (some ((p:Int)+1))=⟨#[x[p]]⟩:=by
 rw[Gx x (by lia) (by lia) (by lia)]
 have e1:((p:Int)+1-(p:Int)).toNat=1:=by lia
 have e2:((p:Int)).toNat=p:=by lia
 rw[e1,e2,drop_eq_getElem_cons hp]
 rfl
theorem QU(c:Nat)(h:c<128):Txt.lower (⟨#[c]⟩:Str)=⟨#[lo1 c]⟩:=by
 rw[lower_ascii (x:=⟨#[c]⟩) (by intro d hd;have e:d=c:=(by simpa using hd);lia)]
 simp
noncomputable def NS:List Nat:=[97,98,99,65,66,67,49,95,45,46,47,120,121,122]
theorem QO(ns:List Int)(a:Int)(k:Nat)(h:0≤a+1+k):Mr ns a k∈NS:=by
 have d:=wZ ns (a+1+k) (m:=18) (by decide)
 have hall:∀n,n<18→A18.getD n 0∈NS:=by decide
 exact hall _ (by lia)
noncomputable def S6:List Nat:=[97,98,65,66,49,99]
theorem s6_l:("abAB1c" : Str).cps.toList=S6:=by decide +kernel
theorem JM:∀c∈NS,c<128∧(lo1 c∈QS∨lo1 c∈MK):=by decide
theorem TD:∀n,n<6→S6.getD n 0∈QS:=by decide
set_option maxHeartbeats 1000000
noncomputable def Vv:FS:=(zC (yR 5 (yo j9 (za (eOp Ya (yo yB (za (ze 2) zi)) (eC (.int 1))) (za (eOp zO (ze 5) (zv zr (za (ze 0) (za (eOp zO (eOp zO (ze 1) (eC (.int 1))) (eOp vV (eC (.int 3)) (ze 6))) (za (eC (.int 3)) zi))))) zi))))
  (zC (yR 7 (U2 "str" loD (eOr (eSl (ze 2) (ve (ze 5)) (ve (eOp zO (ze 5) (eC (.int 1))))) (eC (.str "a")))))
  (zC (yR 5 (eOp zO (ze 5) (eC (.int 1))))
  (zC (sIf (FD.tB (eOp eqD (zv zr (za (ze 0) (za (eOp zO (eOp zO (ze 1) (eC (.int 2))) (eOp vV (eC (.int 3)) (ze 6))) (za (eC (.int 5)) zi)))) (eC (.int 0)))) (yR 7 (eOp ixD (eC (.str "abAB1c")) (zv zr (za (ze 0) (za (eOp zO (eOp zO (ze 1) (eC (.int 3))) (eOp vV (eC (.int 3)) (ze 6))) (za (eC (.int 6)) zi)))))) yd)
  (sIf (uP (vQ (zv xC (za (ze 7) zi)))) (yR 4 (eOp zO (ze 4) (ze 7))) yd)))))
noncomputable def qSt(ns:List Int)(a:Int)(x:List Nat)(most:Int)(q:List Nat)(p:Int)(s1 s2:Option Sl):DS:=
 [some (.val (.scr ns)),some (.val (.int a)),some (.val (.str ⟨x.toArray⟩)),some (.val (.int most)),some (.val (.str ⟨q.toArray⟩)),some (.val (.int p)),s1,s2]
theorem Ux(ns:List Int)(a:Int)(x:List Nat)(most:Int)(q:List Nat)(p:Int)(k:Nat)(s2:Option Sl)(h63:ns.length≤63)(h0:0≤a)(ha:a<900000)(hk:k<100)(hx0:0<x.length)(hx1:x.length≤100)(hx:∀c∈x,c∈NS)(hq:q.length≤100)(hqs:∀c∈q,c∈QS)(hp:0≤p) :
  ∃q' p' s',Vv (qSt ns a x most q p (some (.val (.int (0+k)))) s2)=.nx (qSt ns a x most q' p' (some (.val (.int (0+k)))) s')∧q'.length≤q.length+1∧(∀c∈q',c∈QS)∧0≤p':=by
 have hl:((⟨x.toArray⟩:Str).length:Int)=x.length:=by show((x.toArray.size:Nat):Int)=_;simp
 have hsz:(⟨x.toArray⟩:Str).length≤sizeLine:=by rw[zK];show x.toArray.size≤_;simp;lia
 have m3:=vU (i:=3) (j:=0+(k:Int)) (.inl ⟨by decide,by decide⟩)
 have g1:=wz ns (a+1+3*(0+(k:Int))) 3 h63 (by lia) (by lia) (by decide)
 have g2:=wz ns (a+2+3*(0+(k:Int))) 5 h63 (by lia) (by lia) (by decide)
 have g3:=wz ns (a+3+3*(0+(k:Int))) 6 h63 (by lia) (by lia) (by decide)
 have b1:=wZ ns (a+1+3*(0+(k:Int))) (m:=3) (by decide)
 have b3:=wZ ns (a+3+3*(0+(k:Int))) (m:=6) (by decide)
 generalize xR ns (a+1+3*(0+(k:Int))) 3=e1 at *
 generalize xR ns (a+2+3*(0+(k:Int))) 5=e2 at *
 generalize xR ns (a+3+3*(0+(k:Int))) 6=e3 at *
 obtain⟨n,hn,hmin⟩:∃n:Nat,n<x.length∧(if p+e1<(x.length:Int)-1 then p+e1 else (x.length:Int)-1)=(n:Int):=by
  by_cases h:p+e1<(x.length:Int)-1
  ·exact⟨(p+e1).toNat,by lia,by rw[if_pos h];lia⟩
  ·exact⟨x.length-1,by lia,by rw[if_neg h];lia⟩
 have hmn:j9 [.int ((x.length:Int)-1),.int (p+e1)]=.ok (.int n):=by
  simp only[j9,XM];rw[hmin]
 have hsl:slD (.str ⟨x.toArray⟩) (some (n:Int)) (some ((n:Int)+1))=.ok (.str ⟨#[x[n]]⟩):=by
  simp only[slD]
  rw[if_pos hsz,Qn x n hn]
 have hxn:=hx x[n] (getElem_mem hn)
 have hlo:loD (.str ⟨#[x[n]]⟩) []=.ok (.str ⟨#[lo1 x[n]]⟩):=by
  simp only[loD]
  rw[if_pos (by show 1≤5000000;decide),QU _ (JM _ hxn).1]
 have htr:Zv (.str ⟨#[x[n]]⟩)=.ok true:=by
  rw[Go (by rw[zK];show 1≤_;decide)];rfl
 have hix:ixD (.str "abAB1c") (.int e3)=.ok (zE (S6.getD e3.toNat 0)):=Yu (Xq b3.1 (by
   rw[s6_l]
   have:e3.toNat<S6.length:=by show e3.toNat<6;lia
   rw[getD_eq_getElem?_getD,getElem?_eq_getElem this];rfl)) (by decide +kernel)
 have key:∀c:Nat,(c∈QS∨c∈MK)→∃q' s',(sIf (uP (vQ (zv xC (za (ze 7) zi)))) (yR 4 (eOp zO (ze 4) (ze 7))) yd) (qSt ns a x most q ((n:Int)+1) (some (.val (.int (0+k)))) (some (.val (zE c))))=.nx (qSt ns a x most q' ((n:Int)+1) (some (.val (.int (0+k)))) s')∧q'.length≤q.length+1∧∀c∈q',c∈QS:=fun c hc=>by
  have hadd:=U8 (a:=⟨q.toArray⟩) (b:=⟨#[c]⟩) (by
   show q.toArray.size+1≤sizeLine
   rw[zK,size_toArray];lia)
  simp only[qSt,yD,Je,vE,yA,zu,zM,zG,getElem?_cons_zero,getElem?_cons_succ,zB,Rs.bind_ok,Lo,xJ,vD,Fl.of_ok]
  by_cases hm:c∈MK
  ·exact⟨q,some (.val (zE c)),by simp only[hm,decide_true,Bool.not_true,Bool.false_eq_true,if_false,zZ],by lia,hqs⟩
  ·refine⟨q++[c],some (.val (zE c)),by simp only[hm,decide_false,Bool.not_false,if_true,ya,yc,zG,getElem?_cons_zero,getElem?_cons_succ,zB,Rs.bind_ok,zE,hadd,Fl.of_ok,set_cons_succ,set_cons_zero,Jh],by simp,fun d hd=>?_⟩
   rcases mem_append.mp hd with h|h
   ·exact hqs d h
   ·have:d=c:=by simpa using h
    subst this
    exact hc.resolve_right hm
 unfold Vv
 simp only[qSt,zR,ya,wN,zu,zM,yc,zG,yG,yA,getElem?_cons_zero,getElem?_cons_succ,zB,Rs.bind_ok,VS hsz,hl,ue,xg,m3,g1,xJ,hmn,Fl.of_ok,set_cons_succ,set_cons_zero,yj,
  J2,U1,M1,YX,Vr,hsl,htr,if_true,XJ,decide_true,hlo,yD,xZ,g2,vw,zW]
 by_cases hz:e2=0
 ·subst hz
  refine byc fun zG_=>?_
  obtain⟨q',s',h1,h2,h3⟩:=key (S6.getD e3.toNat 0) (.inl (TD _ (by lia)))
  refine zG_ ?_
  simp only[qSt] at h1
  refine⟨q',(n:Int)+1,s',?_,h2,h3,by lia⟩
  simp only[beq_self_eq_true,if_true,g3,xJ,Rs.bind_ok,hix,Fl.of_ok,yj]
  exact h1
 ·refine byc fun zG_=>?_
  obtain⟨q',s',h1,h2,h3⟩:=key (lo1 x[n]) (JM _ hxn).2
  refine zG_ ?_
  simp only[qSt] at h1
  refine⟨q',(n:Int)+1,s',?_,h2,h3,by lia⟩
  have hb:(e2==0)=false:=by simpa using hz
  simp only[hb,Bool.false_eq_true,if_false,zZ,yj]
  exact h1
theorem GG(ns:List Int)(a:Int)(x:List Nat)(most:Int)(h63:ns.length≤63)(h0:0≤a)(ha:a<900000)(hm0:0≤most)(hm1:most<50)(hx0:0<x.length)(hx1:x.length≤100)(hx:∀c∈x,c∈NS) :
  ∃q:List Nat,(q.length:Int)≤most∧(∀c∈q,c∈QS)∧xK [.scr ns,.int a,.str ⟨x.toArray⟩,.int most]=.ok (.str ⟨q.toArray⟩):=by
 have st:zX 8 [D.scr ns,.int a,.str ⟨x.toArray⟩,.int most]=[some (.val (.scr ns)),some (.val (.int a)),some (.val (.str ⟨x.toArray⟩)),some (.val (.int most)),none,none,none,none]:=rfl
 have dl:=wZ ns a (m:=most+1) (by lia)
 have dk:=wz ns a (most+1) h63 h0 (by lia) (by lia)
 generalize hN:xR ns a (most+1)=N at *
 have r1:=WC (fs:=za (zv zr (za (ze 0) (za (ze 1) (za (eOp zO (ze 3) (eC (.int 1))) zi)))) zi) (τ:=qSt ns a x most [] 0 none none) (j:=N)
  (by simp only[qSt,zu,zM,yc,yG,yA,zG,getElem?_cons_zero,getElem?_cons_succ,zB,Rs.bind_ok,xg,dk,xJ]) (by lia) (by lia)
 refine byc fun zG_=>?_
 obtain⟨τ',l1,q,p,s1,s2,rfl,l2,l3,l4⟩:=ZI (set:=gNm 6) (body:=Vv) (fun (k:Nat)=>D.int (0+k)) (fun k τ=>∃q p s1 s2,τ=qSt ns a x most q p s1 s2∧q.length≤k∧(∀c∈q,c∈QS)∧0≤p) N.toNat (qSt ns a x most [] 0 none none)
  ⟨[],0,none,none,rfl,le_refl _,(fun _ h=>nomatch h),Int.le_refl _⟩ fun k τ hk z_=>by
   obtain⟨q,p,s1,s2,e,h1,h2,h3⟩:=z_
   subst e
   obtain⟨q',p',s',g1,g2,g3,g4⟩:=Ux ns a x most q p k s2 h63 h0 ha (by lia) hx0 hx1 hx (by lia) h2 h3
   exact⟨_,_,jJ,g1,q',p',_,s',rfl,by lia,g3,g4⟩
 refine zG_ ?_
 refine⟨q,by lia,l3,?_⟩
 have s0:qSt ns a x most [] 0 none none=[some (.val (.scr ns)),some (.val (.int a)),some (.val (.str ⟨x.toArray⟩)),some (.val (.int most)),some (.val (.str "")),some (.val (.int 0)),none,none]:=rfl
 unfold xK Zo
 rw[yw,st,zR,ya,yG,Fl.of_ok,yj,zR,ya,yG,Fl.of_ok,yj,zR,vg]
 simp only[set_cons_succ,set_cons_zero]
 rw[← s0,r1,Fl.of_ok]
 unfold uK
 have l1':yS (gNm 6) Vv ((List.range N.toNat).map fun (k:Nat)=>D.int (0+k)) (qSt ns a x most [] 0 none none)=.nx (qSt ns a x most q p s1 s2):=l1
 unfold Vv at l1'
 rw[l1',yj]
 simp only[qSt,yf,zG,getElem?_cons_zero,getElem?_cons_succ,zB,Fl.of_ok,zU]
noncomputable def wl(c d:Nat):Bool:=c==d||(decide (97≤c∧c≤122)&&up1 c==d)
theorem Tu:("abcdefghijklmnopqrstuvwxyz" : Str).cps.toList=(List.range 26).map (· + 97):=by decide +kernel
theorem vZ(c:Nat):decide (c∈("abcdefghijklmnopqrstuvwxyz" : Str).cps.toList)=decide (97≤c∧c≤122):=by
 rw[Tu]
 apply decide_eq_decide.mpr
 rw[mem_map]
 constructor
 ·rintro⟨i,hi,rfl⟩
  have:=mem_range.mp hi
  lia
 ·intro h
  exact⟨c-97,mem_range.mpr (by lia),by lia⟩
theorem Qf(c:Nat)(h:c<128):Txt.upper (⟨#[c]⟩:Str)=⟨#[up1 c]⟩:=by
 rw[upper_ascii (x:=⟨#[c]⟩) (by intro d hd;have e:d=c:=(by simpa using hd);lia)]
 simp
theorem UH(c d:Nat):((⟨#[c]⟩:Str)==⟨#[d]⟩)=(c==d):=by
 rw[Bool.eq_iff_iff]
 simp
theorem Y1(c d:Nat)(hc:c<128):xW [zE c,zE d]=.ok (.bl (wl c d)):=by
 have st:zX 2 [zE c,zE d]=[some (.val (zE c)),some (.val (zE d))]:=rfl
 have hup:upD (.str ⟨#[c]⟩) []=.ok (.str ⟨#[up1 c]⟩):=by
  simp only[upD]
  rw[if_pos (by show 1≤5000000;decide),Qf _ hc]
 unfold xW J5
 rw[yw,st]
 simp only[yf,U1,LN,yc,zG,yG,J2,getElem?_cons_zero,getElem?_cons_succ,zB,Rs.bind_ok,zE,M0,UH,vD,Z1,wD,vZ,XJ,decide_true,if_true,hup]
 unfold wl
 by_cases h:c=d
 ·subst h;simp
 ·have hb:(c==d)=false:=by simpa using h
  simp only[hb,Bool.false_eq_true,if_false,Bool.false_or]
  by_cases h2:97≤c∧c≤122
  ·simp[h2]
  ·simp[h2]
end Law
set_option Elab.async false
set_option linter.all false
set_option maxHeartbeats 1000000
namespace FD
open PySem PySem.Spec PyProof.Rows L2
section
variable{τ:DS}{fa fb fe fi:FE}{fs:FA}{n:Nat}{i:Int}
theorem Zk:Zl n τ=(V3 τ[n]?).bind fun ds=>.ok (.int ds.length):=rfl
theorem vG:Xy n fe τ=Fl.of (V3 τ[n]?) fun ds=>Fl.of (fe τ) fun d=>if ds.length<sizeLine then .nx (τ.set n (some (.own (ds++[d])))) else .no:=rfl
theorem JV:ZM fe τ=(fe τ).bind JR:=rfl
@[simp] theorem ML{ds:List D}:JR (.lst ds)=.ok ds:=rfl
noncomputable def putAt(n:Nat)(ds:List D)(d:D)(τ:DS):D→Fl
 |.int k=>match ixN ds.length k with
  |some j=>.nx (τ.set n (some (.own (ds.set j d))))
  |none=>.no
 |_=>.no
theorem WA:Qq n fi fe τ=Fl.of (fe τ) fun d=>Fl.of (V3 τ[n]?) fun ds=>Fl.of (fi τ) (putAt n ds d τ):=by
 unfold Qq vI
 cases fe τ <;> rfl
theorem GJ{ds:List D}{d:D}{j:Nat}(h:j<ds.length):putAt n ds d τ (.int j)=.nx (τ.set n (some (.own (ds.set j d)))):=by
 have:ixN ds.length (j:Int)=some j:=by
  unfold ixN
  rw[if_pos (by lia),if_pos (by lia)]
  simp
 simp only[putAt,this]
noncomputable def ixO(ds:List D):D→Rs D
 |.int k=>match atI ds k with
  |some d=>.ok d
  |none=>.no
 |_=>.no
theorem LM:Gb n fi τ=(V3 τ[n]?).bind fun ds=>(fi τ).bind (ixO ds):=by
 unfold Gb
 show(V3 τ[n]?).bind _=_
 cases V3 τ[n]? <;> rfl
end
end FD
namespace Law
open PySem PySem.Spec PyProof.Rows L2 FD
noncomputable abbrev tx(x:List Nat):D:=.str ⟨x.toArray⟩
noncomputable abbrev nts(x:List Nat):D:=.lst (x.map fun (k:Nat)=>D.int k)
theorem wm(x:List Nat)(h:x.length≤1000):yB [tx x]=.ok (.int x.length):=by
 rw[VS (by rw[zK];show x.toArray.size≤_;simp;lia)]
 show Rs.ok (D.int ((x.toArray.size:Nat):Int))=_
 simp
theorem Gm(x:List Nat)(j:Nat)(c:Nat)(h:x[j]?=some c)(hl:x.length≤1000):ixD (tx x) (.int j)=.ok (zE c):=by
 refine Yu (Xq (by lia) (by simpa using h)) (by rw[zK];show x.toArray.size≤_;simp;lia)
theorem Gk(x:List Nat):wR ⟨x.toArray⟩=x.map zE:=by simp[wR]
noncomputable def epR:List Nat→List Nat→Nat→List Nat
 |[],_,_=>[]
 |_::_,[],_=>[]
 |a::q,c::x,k=>if wl a c=true then k::epR q x (k+1) else epR (a::q) x (k+1)
noncomputable def xv:List Nat→List Nat→Bool
 |[],_=>true
 |_::_,[]=>false
 |a::q,c::x=>if wl a c=true then xv q x else xv (a::q) x
theorem Xj:∀(q x:List Nat) (k:Nat),((epR q x k).length=q.length)↔xv q x=true
 |[],x,k=>by simp[epR,xv]
 |a::q,[],k=>by simp[epR,xv]
 |a::q,c::x,k=>by
  simp only[epR,xv]
  split
  ·simpa using Xj q x (k+1)
  ·exact Xj (a::q) x (k+1)
theorem Xm{set:FG}{fe:FE}{τ:DS}{α β:Type}(f:α→D)(g:β→D)(h:α→β):∀(xs:List α),(∀a∈xs,∃τ1,set (f a) τ=.ok τ1∧fe τ1=.ok (g (h a)))→vd set (fun _=>.ok true) fe τ (xs.map f)=.ok ((xs.map h).map g):=by
 intro l_
 induction l_ with
 |nil=>
  rintro _
  exact rfl
 |cons a xs ih_=>
  rintro hs
  obtain⟨τ1,h1,h2⟩:=hs a (mem_cons_self ..)
  rw[map_cons,vd,h1]
  simp only[h2,ih_ fun b hb=>hs b (mem_cons_of_mem _ hb),Rs.bind_ok,map_cons]
end Law
set_option Elab.async false
set_option linter.all false
set_option maxHeartbeats 1000000
namespace FD
open PySem PySem.Spec PyProof.Rows L2
theorem uW(x:List Nat):(⟨x.toArray⟩:Str).length=x.length:=by show x.toArray.size=_;simp
theorem Gw(x:List Nat)(n:Nat):Txt.slice (⟨x.toArray⟩:Str) none (some (n:Int))=⟨(x.take n).toArray⟩:=by
 have:=eq_of_beq (slice_to_min_closes (x:=⟨x.toArray⟩) (n:=(n:Int)) (m:=_) (by lia) rfl)
 rw[this]
 congr 2
 rw[uW]
 show(List.drop (0:Int).toNat x).take _=_
 rw[show(0:Int).toNat=0 from rfl,drop_zero]
 split
 ·rw[List.take_of_length_le (by lia),List.take_of_length_le (by lia)]
 ·congr 1
theorem Tq(a b:List Nat):(⟨a.toArray⟩:Str)++(⟨b.toArray⟩:Str)=⟨(a++b).toArray⟩:=by
 show Str.mk _=_
 simp
theorem wH{set:FG}{ft:FT}{fe:FE}{τ:DS}{α:Type}(f g:α→D)(p:α→Bool):∀(xs:List α),(∀a∈xs,∃τ1,set (f a) τ=.ok τ1∧ft τ1=.ok (p a)∧fe τ1=.ok (g a))→vd set ft fe τ (xs.map f)=.ok ((xs.filter p).map g):=by
 intro l_
 induction l_ with
 |nil=>
  rintro _
  exact rfl
 |cons a xs ih_=>
  rintro hs
  refine byc fun zG_=>?_
  obtain⟨τ1,h1,h2,h3⟩:=hs a (mem_cons_self ..)
  refine zG_ ?_
  have ih:=ih_ fun b hb=>hs b (mem_cons_of_mem _ hb)
  rw[map_cons,vd,h1]
  cases hp:p a
  ·rw[hp] at h2
   simp only[h2,ih,filter_cons,hp,Bool.false_eq_true,if_false]
  ·rw[hp] at h2
   simp only[h2,h3,ih,filter_cons,hp,if_true,Rs.bind_ok,map_cons]
end FD
namespace Law
open PySem PySem.Spec PyProof.Rows L2 FD
theorem f1:∀a∈QS,∀c∈NS,wl (lo1 a) c=wl (lo1 a) (lo1 c):=by decide
theorem f2:∀a∈QS,∀c∈NS,wl a c=true→wl (lo1 a) c=true:=by decide
theorem f3:∀a∈QS,∀c∈NS,wl a c=true→lo1 c=lo1 a:=by decide
structure Lay(q x l:List Nat):Prop where
 len:l.length=q.length
 ris:∀j,j+1<l.length→l.getD j 0<l.getD (j+1) 0
 inn:∀j,j<l.length→l.getD j 0<x.length
 met:∀j,j<l.length→wl (q.getD j 0) (x.getD (l.getD j 0) 0)=true
noncomputable def LU(x:List Nat)(p:Nat):Int:=if p=0 then 8 else if x.getD (p-1) 0∈MK then 6 else if (65≤x.getD p 0∧x.getD p 0≤90)∧((97≤x.getD (p-1) 0∧x.getD (p-1) 0≤122)∨(48≤x.getD (p-1) 0∧x.getD (p-1) 0≤57)) then 5 else 0
noncomputable def YQ(a:Nat)(x:List Nat)(p:Nat):Int:=10+LU x p+(if x.getD p 0=a then 1 else 0)
noncomputable def MB(p:Nat):Int:=-(if (p:Int)<3 then (p:Int) else 3)
noncomputable def Y7(r p:Nat):Int:=if (p:Int)-r-1=0 then 7 else -(if (p:Int)-r-1<5 then (p:Int)-r-1 else 5)
noncomputable abbrev Tl:=Int×List Nat
noncomputable def jq:List Tl→Option Tl→Option Tl
 |[],c=>c
 |t::r,none=>jq r (some t)
 |t::r,some c=>jq r (some (if c.1<t.1 then t else c))
noncomputable def Y8(a:Nat)(x:List Nat):List Tl:=((List.range x.length).filter fun p=>wl a (x.getD p 0)).map fun p=>(YQ a x p,[p])
noncomputable def Zb(p:Nat)(ts:List Tl):List Tl:=(ts.filter fun t=>decide (p<t.2.getD 0 0)).map fun t=>(t.1+Y7 p (t.2.getD 0 0),t.2)
noncomputable def Y6(a:Nat)(x:List Nat)(ts:List Tl)(p:Nat):Option Tl:=if wl a (x.getD p 0)=true then (jq (Zb p ts) none).map fun t=>(YQ a x p+t.1,p::t.2) else none
noncomputable def Wf(a:Nat)(x:List Nat)(ts:List Tl):List Tl:=(List.range x.length).filterMap (Y6 a x ts)
noncomputable def yZ:List Nat→List Nat→List Tl
 |[],_=>[]
 |[a],x=>Y8 a x
 |a::b::q,x=>Wf a x (yZ (b::q) x)
noncomputable def MA(t:Tl):Tl:=(t.1+MB (t.2.getD 0 0),t.2)
noncomputable def Ta(q x:List Nat):Option Tl:=jq ((yZ q x).map MA) none
theorem jk:∀(ts:List Tl) (c:Option Tl) (t:Tl),jq ts c=some t→t∈ts∨c=some t
 |[],c,t,h=>.inr h
 |u::r,none,t,h=>by
  rcases jk r (some u) t h with h|h
  ·exact .inl (mem_cons_of_mem _ h)
  ·cases h;exact .inl (mem_cons_self ..)
 |u::r,some c,t,h=>by
  rcases jk r _ t h with h|h
  ·exact .inl (mem_cons_of_mem _ h)
  ·by_cases g:c.1<u.1
   ·rw[if_pos g] at h;cases h;exact .inl (mem_cons_self ..)
   ·rw[if_neg g] at h;exact .inr h
noncomputable def sm(f:Nat→Int):Nat→Int
 |0=>0
 |n+1=>sm f n+f n
theorem Jk(f:Nat→Int):∀n,sm f (n+1)=f 0+sm (fun j=>f (j+1)) n:=by
 intro l_
 induction l_ with
 |zero=>
  simp[sm]
 |succ n ih_=>
  rw[sm,ih_,sm];lia
noncomputable def trk(x:List Nat)(r:Nat)(q l:List Nat)(j:Nat):Int:=YQ (q.getD j 0) x (l.getD j 0)+Y7 (if j=0 then r else l.getD (j-1) 0) (l.getD j 0)
theorem Gp(a p r:Nat)(q x l:List Nat)(j:Nat):trk x r (a::q) (p::l) (j+1)=trk x p q l j:=by
 simp only[trk,List.getD_cons_succ,Nat.succ_ne_zero,if_false,Nat.add_sub_cancel]
 cases j with
 |zero=>rw[if_pos rfl,List.getD_cons_zero]
 |succ j=>rw[if_neg (Nat.succ_ne_zero j),List.getD_cons_succ,Nat.add_sub_cancel]
noncomputable def Vl(x:List Nat):List Nat→List Nat→Int
 |a::q,p::l=>YQ a x p+sm (trk x p q l) l.length
 |_,_=>0
theorem Qk(a b p r:Nat)(q x l:List Nat):Vl x (a::b::q) (p::r::l)=YQ a x p+Y7 p r+Vl x (b::q) (r::l):=by
 simp only[Vl,length_cons]
 rw[Jk,funext (Gp b r p q x l)]
 simp only[trk,if_true,List.getD_cons_zero]
 lia
theorem Lay.one{a p:Nat}{x:List Nat}(h1:p<x.length)(h2:wl a (x.getD p 0)=true):Lay [a] x [p]:=by
 have z:∀j,j<[p].length→j=0:=fun j hj=>by simpa using hj
 exact⟨rfl,fun j hj=>by simp at hj,fun j hj=>by rw[z j hj];exact h1,fun j hj=>by rw[z j hj];exact h2⟩
theorem Lay.cons{a p:Nat}{q x l:List Nat}(h:Lay q x l)(h1:p<x.length)(h2:wl a (x.getD p 0)=true)(h3:0<l.length→p<l.getD 0 0):Lay (a::q) x (p::l):=by
 refine⟨by simp[h.len],fun j hj=>?_,fun j hj=>?_,fun j hj=>?_⟩
 ·cases j with
  |zero=>simpa using h3 (by simpa using hj)
  |succ j=>simpa using h.ris j (by simpa using hj)
 ·cases j with
  |zero=>simpa using h1
  |succ j=>simpa using h.inn j (by simpa using hj)
 ·cases j with
  |zero=>exact h2
  |succ j=>simpa using h.met j (by simpa using hj)
theorem ZQ(x:List Nat):∀(q:List Nat) (t:Tl),t∈yZ q x→Lay q x t.2∧t.1=Vl x q t.2
 |[],t,h=>by simp[yZ] at h
 |[a],t,h=>by
  simp only[yZ,Y8,mem_map,mem_filter,mem_range] at h
  refine byc fun zG_=>?_
  obtain⟨p,⟨h1,h2⟩,rfl⟩:=h
  refine zG_ ?_
  exact⟨Lay.one h1 h2,by simp[Vl,sm]⟩
 |a::b::q,t,h=>by
  simp only[yZ,Wf,List.mem_filterMap,mem_range] at h
  obtain⟨p,h1,h2⟩:=h
  unfold Y6 at h2
  split at h2
  ·rename_i hm
   cases e:jq (Zb p (yZ (b::q) x)) none with
   |none=>rw[e] at h2;cases h2
   |some u=>
    rw[e] at h2
    have h2:some (YQ a x p+u.1,p::u.2)=some t:=h2
    cases h2
    rcases jk _ _ _ e with g|g
    ·simp only[Zb,mem_map,mem_filter,decide_eq_true_eq] at g
     refine byc fun zG_=>?_
     obtain⟨v,⟨g1,g2⟩,rfl⟩:=g
     obtain⟨k1,k2⟩:=ZQ x (b::q) v g1
     refine zG_ ?_
     refine⟨k1.cons h1 hm fun _=>g2,?_⟩
     have hl:=k1.len
     cases e2:v.2 with
     |nil=>rw[e2] at hl;simp at hl
     |cons r l=>
      rw[e2] at k2
      simp only[List.getD_cons_zero]
      rw[Qk,k2]
      lia
    ·cases g
  ·cases h2
end Law
set_option Elab.async false
set_option linter.all false
set_option maxHeartbeats 1000000
namespace FD
open PySem PySem.Spec PyProof.Rows L2
noncomputable def negI:D→Rs D
 |.int i=>.ok (.int (-i))
 |_=>.no
@[simp] theorem Mn{i:Int}:negI (.int i)=.ok (.int (-i)):=rfl
theorem Yw{fa:FE}{τ:DS}:xQ fa τ=(fa τ).bind negI:=by
 unfold xQ
 show(fa τ).bind _=_
 cases fa τ with
 |ok d=>cases d <;> rfl
 |_=>rfl
theorem Ms(i j:Int):j9 [.int i,.int j]=.ok (.int (if j<i then j else i)):=rfl
end FD
namespace Law
open PySem PySem.Spec PyProof.Rows L2 FD
noncomputable abbrev tlD(t:Tl):D:=.tup [.int t.1,nts t.2]
noncomputable def jm:Option Tl→D
 |none=>.non
 |some t=>tlD t
theorem Qi(t:Tl):ixD (tlD t) (.int 0)=.ok (.int t.1):=rfl
theorem Qh(t:Tl):ixD (tlD t) (.int 1)=.ok (nts t.2):=rfl
theorem zf9(l:List Nat)(j:Nat)(h:j<l.length):ixD (nts l) (.int (j:Int))=.ok (.int (l.getD j 0:Nat)):=by
 refine JQ (Xq (by lia) ?_)
 simp[getD_eq_getElem?_getD,getElem?_eq_getElem h]
theorem WU(l:List Nat)(h:0<l.length):ixD (nts l) (.int 0)=.ok (.int (l.getD 0 0:Nat)):=zf9 l 0 h
theorem Ze(x:List Nat)(j:Nat)(h:j<x.length):x[j]?=some (x.getD j 0):=by
 rw[getD_eq_getElem?_getD,getElem?_eq_getElem h];rfl
theorem XS(x:List Nat)(j:Nat)(h:j<x.length)(hx:x.length≤1000):ixD (tx x) (.int (j:Int))=.ok (zE (x.getD j 0)):=Gm x j _ (Ze x j h) hx
theorem LH:("ABCDEFGHIJKLMNOPQRSTUVWXYZ" : Str).cps.toList=(List.range 26).map (· + 65):=by decide +kernel
theorem zj0:("0123456789" : Str).cps.toList=(List.range 10).map (· + 48):=by decide +kernel
theorem Jp(c n a:Nat):decide (c∈(List.range (n+1)).map (· + a))=decide (a≤c∧c≤n+a):=by
 apply decide_eq_decide.mpr
 rw[mem_map]
 constructor
 ·rintro⟨i,hi,rfl⟩
  have:=mem_range.mp hi
  lia
 ·intro h
  exact⟨c-a,mem_range.mpr (by lia),by lia⟩
theorem ub(c:Nat):decide (c∈("ABCDEFGHIJKLMNOPQRSTUVWXYZ" : Str).cps.toList)=decide (65≤c∧c≤90):=by
 rw[LH];exact Jp c 25 65
theorem Zh(c:Nat):decide (c∈("0123456789" : Str).cps.toList)=decide (48≤c∧c≤57):=by
 rw[zj0];exact Jp c 9 48
theorem zj6(x:List Nat)(p:Nat)(hx:x.length≤1000)(hp:p<x.length):yF [tx x,.int (p:Int)]=.ok (.int (LU x p)):=by
 have st:zX 3 [tx x,.int (p:Int)]=[some (.val (tx x)),some (.val (.int (p:Int))),none]:=rfl
 unfold yF vA
 rw[yw,st]
 cases p with
 |zero=>
  simp only[zR,yD,yf,zZ,xZ,yc,zG,yG,getElem?_cons_zero,getElem?_cons_succ,zB,Rs.bind_ok,Fl.of_ok,Zw,zU,zW,vw,if_true,show((((0:Nat):Int))==0)=true from rfl]
  rfl
 |succ k=>
  have e0:(((k+1:Nat):Int)==0)=false:=by simp;lia
  have e1:((k+1:Nat):Int)-1=(k:Int):=by lia
  have hk:=XS x k (by lia) hx
  have hk1:=XS x (k+1) hp hx
  have hb:LU x (k+1)=if x.getD k 0∈MK then 6 else if (65≤x.getD (k+1) 0∧x.getD (k+1) 0≤90)∧((97≤x.getD k 0∧x.getD k 0≤122)∨(48≤x.getD k 0∧x.getD k 0≤57)) then 5 else 0:=by
   unfold LU;rw[if_neg (Nat.succ_ne_zero k)];rfl
  rw[hb]
  generalize x.getD k 0=c at *
  generalize x.getD (k+1) 0=d at *
  simp only[zE] at hk hk1
  by_cases h1:c∈MK
  ·simp only[zR,ya,yD,yf,zZ,xZ,yc,zG,yG,getElem?_cons_zero,getElem?_cons_succ,set_cons_succ,set_cons_zero,zB,Rs.bind_ok,Fl.of_ok,yj,Zw,zU,zW,ue,vw,if_true,Bool.false_eq_true,if_false,e0,e1,hk,Z1,wD,QP,h1,decide_true]
  ·by_cases h2:65≤d∧d≤90
   ·by_cases h3:97≤c∧c≤122
    ·have h4:(65≤d∧d≤90)∧((97≤c∧c≤122)∨(48≤c∧c≤57)):=⟨h2,.inl h3⟩
     rw[if_neg h1,if_pos h4]
     simp only[zR,ya,yD,yf,zZ,xZ,vF,uO,yc,zG,yG,getElem?_cons_zero,getElem?_cons_succ,set_cons_succ,set_cons_zero,zB,Rs.bind_ok,Fl.of_ok,yj,Zw,zU,zW,ue,vw,if_true,Bool.false_eq_true,if_false,e0,e1,hk,hk1,Z1,wD,QP,h1,decide_false,ub,vZ,Zh,h2,h3,and_self,decide_true]
    ·by_cases h5:48≤c∧c≤57
     ·have h4:(65≤d∧d≤90)∧((97≤c∧c≤122)∨(48≤c∧c≤57)):=⟨h2,.inr h5⟩
      rw[if_neg h1,if_pos h4]
      simp only[zR,ya,yD,yf,zZ,xZ,vF,uO,yc,zG,yG,getElem?_cons_zero,getElem?_cons_succ,set_cons_succ,set_cons_zero,zB,Rs.bind_ok,Fl.of_ok,yj,Zw,zU,zW,ue,vw,if_true,Bool.false_eq_true,if_false,e0,e1,hk,hk1,Z1,wD,QP,h1,decide_false,ub,vZ,Zh,decide_eq_true h2,decide_eq_false h3,decide_eq_true h5]
     ·have h4:¬ ((65≤d∧d≤90)∧((97≤c∧c≤122)∨(48≤c∧c≤57))):=fun h=>by rcases h.2 with h|h;exact h3 h;exact h5 h
      rw[if_neg h1,if_neg h4]
      simp only[zR,ya,yD,yf,zZ,xZ,vF,uO,yc,zG,yG,getElem?_cons_zero,getElem?_cons_succ,set_cons_succ,set_cons_zero,zB,Rs.bind_ok,Fl.of_ok,yj,zU,zW,ue,vw,if_true,Bool.false_eq_true,if_false,e0,e1,hk,hk1,Z1,wD,QP,h1,decide_false,ub,vZ,Zh,decide_eq_true h2,decide_eq_false h3,decide_eq_false h5]
   ·have h4:¬ ((65≤d∧d≤90)∧((97≤c∧c≤122)∨(48≤c∧c≤57))):=fun h=>h2 h.1
    rw[if_neg h1,if_neg h4]
    simp only[zR,ya,yD,yf,zZ,xZ,vF,uO,yc,zG,yG,getElem?_cons_zero,getElem?_cons_succ,set_cons_succ,set_cons_zero,zB,Rs.bind_ok,Fl.of_ok,yj,zU,zW,ue,vw,Bool.false_eq_true,if_false,e0,e1,hk,hk1,Z1,wD,QP,h1,decide_false,ub,decide_eq_false h2]
theorem G6(a:Nat)(x:List Nat)(p:Nat)(hx:x.length≤1000)(hp:p<x.length):yx [zE a,tx x,.int (p:Int)]=.ok (.int (YQ a x p)):=by
 have st:zX 4 [zE a,tx x,.int (p:Int)]=[some (.val (zE a)),some (.val (tx x)),some (.val (.int (p:Int))),none]:=rfl
 have hk:=XS x p hp hx
 have hb:=zj6 x p hx hp
 unfold yx Zn YQ
 rw[yw,st]
 simp only[zE] at hk ⊢
 by_cases h:x.getD p 0=a
 ·have h':(x.getD p 0==a)=true:=by simpa using h
  rw[if_pos h]
  simp only[zR,ya,yf,xZ,yc,zG,yG,zM,zu,yA,M2,getElem?_cons_zero,getElem?_cons_succ,set_cons_succ,set_cons_zero,zB,Rs.bind_ok,Fl.of_ok,yj,zU,xJ,zW,xg,M0,if_true,hk,UH,h',hb]
 ·have h':(x.getD p 0==a)=false:=by simpa using h
  rw[if_neg h]
  simp only[zR,ya,yf,xZ,yc,zG,yG,zM,zu,yA,M2,getElem?_cons_zero,getElem?_cons_succ,set_cons_succ,set_cons_zero,zB,Rs.bind_ok,Fl.of_ok,yj,zU,xJ,zW,xg,M0,Bool.false_eq_true,if_false,hk,UH,h',hb]
theorem Lx(p:Nat):yV [.int (p:Int)]=.ok (.int (MB p)):=by
 have st:zX 1 [.int (p:Int)]=[some (.val (.int (p:Int)))]:=rfl
 unfold yV jt MB
 rw[yw,st]
 simp only[yf,zG,yG,zM,zu,wN,getElem?_cons_zero,zB,Rs.bind_ok,Fl.of_ok,zU,Ms,Yw,Mn]
 congr 3
 split <;> split <;> lia
theorem Ls(r p:Nat):xr [.int (r:Int),.int (p:Int)]=.ok (.int (Y7 r p)):=by
 have st:zX 3 [.int (r:Int),.int (p:Int)]=[some (.val (.int (r:Int))),some (.val (.int (p:Int))),none]:=rfl
 unfold xr jr Y7
 rw[yw,st]
 by_cases h:(p:Int)-r-1=0
 ·have h':((p:Int)-r-1==0)=true:=by simpa using h
  rw[if_pos h]
  simp only[zR,ya,yD,yf,zZ,xZ,yc,zG,yG,getElem?_cons_zero,getElem?_cons_succ,set_cons_succ,set_cons_zero,zB,Rs.bind_ok,Fl.of_ok,yj,Zw,zU,zW,ue,vw,if_true,h']
 ·have h':((p:Int)-r-1==0)=false:=by simpa using h
  rw[if_neg h]
  simp only[zR,ya,yD,yf,zZ,xZ,yc,zG,yG,zM,zu,wN,getElem?_cons_zero,getElem?_cons_succ,set_cons_succ,set_cons_zero,zB,Rs.bind_ok,Fl.of_ok,yj,zU,zW,ue,vw,Bool.false_eq_true,if_false,h',Ms,Yw,Mn]
  congr 3
  split <;> split <;> lia
end Law
set_option Elab.async false
set_option linter.all false
set_option maxHeartbeats 1000000
namespace FD
open PySem PySem.Spec PyProof.Rows L2
theorem zc6{fs:FA}{τ:DS}{i j:Int}(h:fs τ=.ok [.int i,.int j,.int (-1)])(h1 : -(2 ^ 62)≤i)(h2:i<2 ^ 62)(h3 : -(2 ^ 62)≤j)(h4:j<2 ^ 62):Q4 fs τ=.ok (ZT i (i-j).toNat):=by
 unfold Q4
 rw[h]
 simp only[Rs.bind_ok,VX]
 rw[if_pos ⟨⟨h1,h2⟩,h3,h4⟩]
end FD
namespace Law
open PySem PySem.Spec PyProof.Rows L2 FD
noncomputable def ZN:FS:=(sIf (Z9 (FD.tB (eOp isD (ze 1) (eC .non))) (FD.tB (eOp gtD (eOp ixD (ze 2) (eC (.int 0))) (eOp ixD (ze 1) (eC (.int 0)))))) (yR 1 (ze 2)) yd)
theorem zi2:isD .non .non=.ok (.bl true):=rfl
theorem za6(t:Tl):isD (tlD t) .non=.ok (.bl false):=rfl
theorem Wi:uw .non .non=.ok (.bl false):=rfl
theorem VU(t:Tl):uw (tlD t) .non=.ok (.bl true):=rfl
theorem W3(z:D):∀(ts:List Tl) (c:Option Tl) (s:Option Sl),∃s',yS (gNm 2) ZN (ts.map tlD) [some (.val z),some (.val (jm c)),s]=.nx [some (.val z),some (.val (jm (jq ts c))),s']
 |[],c,s=>⟨s,rfl⟩
 |t::ts,none,s=>by
  obtain⟨s',ih⟩:=W3 z ts (some t) (some (.val (tlD t)))
  refine⟨s',?_⟩
  have:ZN [some (.val z),some (.val (jm none)),some (.val (tlD t))]=.nx [some (.val z),some (.val (jm (some t))),some (.val (tlD t))]:=by
   unfold ZN jm
   simp only[ya,yD,zZ,xZ,uO,yc,zG,yG,getElem?_cons_zero,getElem?_cons_succ,set_cons_succ,set_cons_zero,zB,Rs.bind_ok,Fl.of_ok,zW,if_true,zi2]
  rw[map_cons,yS,jJ,Fl.of_ok]
  simp only[set_cons_succ,set_cons_zero,this]
  rw[ih]
  rfl
 |t::ts,some c,s=>by
  obtain⟨s',ih⟩:=W3 z ts (some (if c.1<t.1 then t else c)) (some (.val (tlD t)))
  refine⟨s',?_⟩
  have:ZN [some (.val z),some (.val (jm (some c))),some (.val (tlD t))]=.nx [some (.val z),some (.val (jm (some (if c.1<t.1 then t else c)))),some (.val (tlD t))]:=by
   unfold ZN jm
   by_cases h:c.1<t.1
   ·rw[if_pos h]
    simp only[ya,yD,zZ,xZ,uO,yc,zG,yG,getElem?_cons_zero,getElem?_cons_succ,set_cons_succ,set_cons_zero,zB,Rs.bind_ok,Fl.of_ok,zW,V1,if_true,Bool.false_eq_true,if_false,za6,Qi,h,decide_true]
   ·rw[if_neg h]
    simp only[ya,yD,zZ,xZ,uO,yc,zG,yG,getElem?_cons_zero,getElem?_cons_succ,set_cons_succ,set_cons_zero,zB,Rs.bind_ok,Fl.of_ok,zW,V1,Bool.false_eq_true,if_false,za6,Qi,h,decide_false]
  rw[map_cons,yS,jJ,Fl.of_ok]
  simp only[set_cons_succ,set_cons_zero,this]
  rw[ih]
  rfl
theorem zb1(ts:List Tl):zT [.lst (ts.map tlD)]=.ok (jm (jq ts none)):=by
 have st:zX 3 [.lst (ts.map tlD)]=[some (.val (.lst (ts.map tlD))),none,none]:=rfl
 obtain⟨s',h⟩:=W3 (.lst (ts.map tlD)) ts none none
 unfold ZN at h
 unfold zT uH
 rw[yw,st]
 simp only[jm] at h
 simp only[zR,ya,yf,vg,JV,ML,zG,yG,getElem?_cons_zero,getElem?_cons_succ,set_cons_succ,set_cons_zero,zB,Rs.bind_ok,Fl.of_ok,yj,zU,h]
 rfl
theorem size2:∀a b:D,([a,b]:List D).length≤sizeLine:=fun a b=>by rw[zK];exact Nat.le_of_ble_eq_true rfl
theorem size1:∀a:D,([a]:List D).length≤sizeLine:=fun a=>by rw[zK];exact Nat.le_of_ble_eq_true rfl
theorem Qg{fa fb:FE}{τ:DS}{a b:D}(h1:fa τ=.ok a)(h2:fb τ=.ok b):vx (za fa (za fb zi)) τ=.ok (.tup [a,b]):=by
 rw[J1,zu,h1,Rs.bind_ok,zu,h2,Rs.bind_ok,zM,Rs.bind_ok,Rs.bind_ok,Rs.bind_ok]
 exact if_pos (size2 a b)
theorem Mu{fa:FE}{τ:DS}{a:D}(h1:fa τ=.ok a):uy (za fa zi) τ=.ok (.lst [a]):=by
 rw[W8,zu,h1,Rs.bind_ok,zM,Rs.bind_ok,Rs.bind_ok]
 exact if_pos (size1 a)
theorem M7{f:List D→Rs D}{fa:FE}{τ:DS}{a d:D}(h1:fa τ=.ok a)(h:f [a]=.ok d):zv f (za fa zi) τ=.ok d:=by
 rw[yA,zu,h1,Rs.bind_ok,zM,Rs.bind_ok,Rs.bind_ok,h];rfl
theorem Z5{f:List D→Rs D}{fa fb:FE}{τ:DS}{a b d:D}(h1:fa τ=.ok a)(h2:fb τ=.ok b)(h:f [a,b]=.ok d):zv f (za fa (za fb zi)) τ=.ok d:=by
 rw[yA,zu,h1,Rs.bind_ok,zu,h2,Rs.bind_ok,zM,Rs.bind_ok,Rs.bind_ok,Rs.bind_ok,h];rfl
theorem u3{f:List D→Rs D}{fa fb fc:FE}{τ:DS}{a b c d:D}(h1:fa τ=.ok a)(h2:fb τ=.ok b)(h3:fc τ=.ok c)(h:f [a,b,c]=.ok d):zv f (za fa (za fb (za fc zi))) τ=.ok d:=by
 rw[yA,zu,h1,Rs.bind_ok,zu,h2,Rs.bind_ok,zu,h3,Rs.bind_ok,zM,Rs.bind_ok,Rs.bind_ok,Rs.bind_ok,Rs.bind_ok,h];rfl
theorem op2{op:D→D→Rs D}{fa fb:FE}{τ:DS}{a b:D}{r:Rs D}(h1:fa τ=.ok a)(h2:fb τ=.ok b)(h:op a b=r):eOp op fa fb τ=r:=by
 rw[yc,h1,Rs.bind_ok,h2,Rs.bind_ok,h]
theorem zq{n:Nat}{τ:DS}{d:D}(h:τ[n]?=some (some (.val d))):ze n τ=.ok d:=by rw[zG,h];rfl
theorem uz{k:Nat}{idx:List Nat}{fi:FA}{set:FG}{ft:FT}{fe:FE}{τ:DS}{ds xs:List D}(h1:fi τ=.ok ds)(h2:vd set ft fe (wP k idx τ) ds=.ok xs)(h3:xs.length≤1000):wG k idx fi set ft fe τ=.ok xs:=by
 unfold wG
 rw[h1,Rs.bind_ok,h2]
 exact if_pos (by rw[zK];lia)
theorem tru_ok{fe:FE}{τ:DS}{b:Bool}(h:fe τ=.ok (.bl b)):vQ fe τ=.ok b:=by rw[vE,h];rfl
theorem xY{fe:FE}{τ:DS}{b:Bool}(h:fe τ=.ok (.bl b)):FD.tB fe τ=.ok b:=by rw[xZ,h];rfl
theorem YG{fa:FE}{τ:DS}{n:Nat}(h:fa τ=.ok (.int (n:Int)))(hn:n≤1000):vB (za fa zi) τ=.ok ((List.range n).map fun (k:Nat)=>D.int (0+k)):=by
 rw[WC (j:=(n:Int)) (by rw[zu,h,Rs.bind_ok,zM,Rs.bind_ok]) (by lia) (by lia),Int.toNat_natCast];rfl
theorem uN{g:List D→Rs D}{fa:FE}{τ:DS}{a d:D}(h1:fa τ=.ok a)(h:g [a]=.ok d):yo g (za fa zi) τ=.ok d:=by
 rw[wN,zu,h1,Rs.bind_ok,zM,Rs.bind_ok,Rs.bind_ok,h]
theorem XI(a:Nat)(x:List Nat)(ha:a<128)(hx:x.length≤1000):yi [zE a,tx x]=.ok (.lst ((Y8 a x).map tlD)):=by
 have st:zX 2 [zE a,tx x]=[some (.val (zE a)),some (.val (tx x))]:=rfl
 have cf:=wH (set:=gNm 0) (ft:=(vQ (zv xW (za (ze 1) (za (eOp ixD (ze 2) (ze 0)) zi))))) (fe:=(vx (za (zv yx (za (ze 1) (za (ze 2) (za (ze 0) zi)))) (za (uy (za (ze 0) zi)) zi)))) (τ:=[none,some (.val (zE a)),some (.val (tx x))])
  (fun (k:Nat)=>D.int (0+k)) (fun (p:Nat)=>tlD (YQ a x p,[p])) (fun p=>wl a (x.getD p 0)) (List.range x.length) fun p hp=>by
   have hp:=mem_range.mp hp
   refine⟨[some (.val (.int (p:Int))),some (.val (zE a)),some (.val (tx x))],by rw[Int.zero_add];rfl,?_,?_⟩
   ·exact tru_ok (Z5 (zq rfl) (op2 (zq rfl) (zq rfl) (XS x p hp hx)) (Y1 a _ ha))
   ·exact Qg (u3 (zq rfl) (zq rfl) (zq rfl) (G6 a x p hx hp)) (Mu (zq rfl))
 have hlen:(((List.range x.length).filter fun p=>wl a (x.getD p 0)).map fun (p:Nat)=>tlD (YQ a x p,[p])).length≤1000:=by
  rw[length_map]
  have:=length_filter_le (fun p=>wl a (x.getD p 0)) (List.range x.length)
  rw[length_range] at this;lia
 have ec:=uz (k:=1) (idx:=[0,1]) (fi:=vB (za (yo yB (za (ze 1) zi)) zi)) (τ:=[some (.val (zE a)),some (.val (tx x))]) (YG (uN (zq rfl) (wm x hx)) hx) cf hlen
 unfold yi vM
 rw[yw,st,yf]
 simp only[ec,Rs.bind_ok,Fl.of_ok,zU]
 unfold Y8
 rw[map_map]
 rfl
theorem QY(p:Nat)(ts:List Tl)(hs:ts.length≤1000)(hn:∀t∈ts,0<t.2.length):yH [.int (p:Int),.lst (ts.map tlD)]=.ok (.lst ((Zb p ts).map tlD)):=by
 have st:zX 2 [.int (p:Int),.lst (ts.map tlD)]=[some (.val (.int (p:Int))),some (.val (.lst (ts.map tlD)))]:=rfl
 have cf:=wH (set:=gNm 0) (ft:=(FD.tB (eOp gtD (eOp ixD (eOp ixD (ze 0) (eC (.int 1))) (eC (.int 0))) (ze 1)))) (fe:=(vx (za (eOp zO (eOp ixD (ze 0) (eC (.int 0))) (zv xr (za (ze 1) (za (eOp ixD (eOp ixD (ze 0) (eC (.int 1))) (eC (.int 0))) zi)))) (za (eOp ixD (ze 0) (eC (.int 1))) zi)))) (τ:=[none,some (.val (.int (p:Int)))])
  tlD (fun t=>tlD (t.1+Y7 p (t.2.getD 0 0),t.2)) (fun t=>decide (p<t.2.getD 0 0)) ts fun t ht=>by
   refine⟨[some (.val (tlD t)),some (.val (.int (p:Int)))],rfl,?_,?_⟩
   ·have:=WU t.2 (hn t ht)
    refine xY (op2 (op2 (op2 (zq rfl) rfl (Qh t)) rfl this) (zq rfl) ?_)
    rw[V1]
    congr 2
    exact decide_eq_decide.mpr (by lia)
   ·have:=WU t.2 (hn t ht)
    exact Qg (op2 (op2 (zq rfl) rfl (Qi t)) (Z5 (zq rfl) (op2 (op2 (zq rfl) rfl (Qh t)) rfl this) (Ls p _)) (xg)) (op2 (zq rfl) rfl (Qh t))
 have hlen:((ts.filter fun t=>decide (p<t.2.getD 0 0)).map fun t=>tlD (t.1+Y7 p (t.2.getD 0 0),t.2)).length≤1000:=by
  rw[length_map]
  have:=length_filter_le (fun t:Tl=>decide (p<t.2.getD 0 0)) ts
  lia
 have it:ZM (ze 1) [some (.val (.int (p:Int))),some (.val (.lst (ts.map tlD)))]=.ok (ts.map tlD):=rfl
 have ec:=uz (k:=1) (idx:=[0]) (τ:=[some (.val (.int (p:Int))),some (.val (.lst (ts.map tlD)))]) it cf hlen
 unfold yH u6
 rw[yw,st,yf]
 simp only[ec,Rs.bind_ok,Fl.of_ok,zU]
 unfold Zb
 rw[map_map]
 rfl
noncomputable def ZJ:FS:=(sIf (vQ (zv xW (za (ze 0) (za (eOp ixD (ze 1) (ze 4)) zi)))) (zC (yR 5 (zv zT (za (zv yH (za (ze 4) (za (ze 2) zi))) zi)))
  (sIf (FD.tB (eOp uw (ze 5) (eC .non))) (Xy 3 (vx (za (eOp zO (zv yx (za (ze 0) (za (ze 1) (za (ze 4) zi)))) (eOp ixD (ze 5) (eC (.int 0)))) (za (eOp zO (uy (za (ze 4) zi)) (eOp ixD (ze 5) (eC (.int 1)))) zi)))) yd)) yd)
theorem Ge(p:Nat)(l:List Nat)(h:l.length≤1000):zO (.lst [.int (p:Int)]) (nts l)=.ok (nts (p::l)):=by
 show(if _ then Rs.ok (D.lst _) else Rs.no)=_
 rw[if_pos (by rw[zK,length_map,length_singleton];lia)]
 rfl
theorem My(p:Nat)(ts:List Tl):∀t,jq (Zb p ts) none=some t→∃u∈ts,t.2=u.2:=fun t h=>by
 rcases jk _ _ _ h with g|g
 ·simp only[Zb,mem_map,mem_filter] at g
  refine byc fun zG_=>?_
  obtain⟨u,⟨g1,_⟩,rfl⟩:=g
  refine zG_ ?_
  exact⟨u,g1,rfl⟩
 ·cases g
theorem Lu(a:Nat)(x:List Nat)(ts acc:List Tl)(p:Nat)(s5:Option Sl)(ha:a<128)(hx:x.length≤1000)(hs:ts.length≤1000)(hn:∀t∈ts,0<t.2.length∧t.2.length≤1000)(hp:p<x.length)(hc:acc.length≤1000) :
  ∃s',ZJ [some (.val (zE a)),some (.val (tx x)),some (.val (.lst (ts.map tlD))),some (.own (acc.map tlD)),some (.val (.int (p:Int))),s5]=.nx [some (.val (zE a)),some (.val (tx x)),some (.val (.lst (ts.map tlD))),some (.own ((acc++(Y6 a x ts p).toList).map tlD)),some (.val (.int (p:Int))),s']:=by
 have hm:=Y1 a (x.getD p 0) ha
 have hlk:=QY p ts hs fun t ht=>(hn t ht).1
 have hfm:=zb1 (Zb p ts)
 have how:=G6 a x p hx hp
 have hix:=XS x p hp hx
 have hsz:(acc.map tlD).length<sizeLine:=by rw[zK,length_map];lia
 unfold ZJ Y6
 generalize xW=fa at hm ⊢
 generalize yH=fb at hlk ⊢
 generalize zT=fc at hfm ⊢
 generalize yx=fd at how ⊢
 by_cases h:wl a (x.getD p 0)=true
 ·rw[if_pos h]
  rw[h] at hm
  cases e:jq (Zb p ts) none with
  |none=>
   rw[e] at hfm
   refine⟨some (.val .non),?_⟩
   simp only[zR,ya,yD,zZ,vG,xZ,vE,yc,zG,yG,zM,zu,yA,getElem?_cons_zero,getElem?_cons_succ,set_cons_succ,set_cons_zero,zB,xf,Rs.bind_ok,Fl.of_ok,yj,xJ,zW,vD,if_true,Bool.false_eq_true,if_false,hix,hm,hlk,hfm,jm,Wi,Option.map_none,Option.toList_none,append_nil]
  |some t=>
   rw[e] at hfm
   obtain⟨u,u1,u2⟩:=My p ts t e
   have hct:=Ge p t.2 (by rw[u2];exact(hn u u1).2)
   refine⟨some (.val (tlD t)),?_⟩
   have tp:vx (za (eOp zO (zv fd (za (ze 0) (za (ze 1) (za (ze 4) zi)))) (eOp ixD (ze 5) (eC (.int 0)))) (za (eOp zO (uy (za (ze 4) zi)) (eOp ixD (ze 5) (eC (.int 1)))) zi)) [some (.val (zE a)),some (.val (tx x)),some (.val (.lst (ts.map tlD))),some (.own (acc.map tlD)),some (.val (.int (p:Int))),some (.val (tlD t))]=.ok (tlD (YQ a x p+t.1,p::t.2)):=
    Qg (op2 (u3 (zq rfl) (zq rfl) (zq rfl) how) (op2 (zq rfl) rfl (Qi t)) xg) (op2 (Mu (zq rfl)) (op2 (zq rfl) rfl (Qh t)) hct)
   simp only[zR,ya,yD,zZ,vG,xZ,vE,yc,zG,yG,zM,zu,yA,getElem?_cons_zero,getElem?_cons_succ,set_cons_succ,set_cons_zero,zB,xf,Rs.bind_ok,Fl.of_ok,yj,xJ,zW,vD,if_true,hix,hm,hlk,hfm,jm,VU,tp,hsz,Option.map_some,Option.toList_some,map_append,map_cons,map_nil]
 ·have h':wl a (x.getD p 0)=false:=by simpa using h
  rw[h'] at hm
  rw[if_neg h]
  refine⟨s5,?_⟩
  simp only[zR,ya,yD,zZ,vE,yc,zG,zM,zu,yA,getElem?_cons_zero,getElem?_cons_succ,set_cons_succ,set_cons_zero,zB,Rs.bind_ok,Fl.of_ok,xJ,vD,Bool.false_eq_true,if_false,hix,hm,Option.toList_none,append_nil]
theorem Xh(f:Nat→Option Tl)(k:Nat):(List.range (k+1)).filterMap f=(List.range k).filterMap f++(f k).toList:=by
 rw[range_succ,List.filterMap_append]
 simp only[List.filterMap_cons,List.filterMap_nil]
 cases h:f k <;> rfl
theorem We(f:Nat→Option Tl)(k:Nat):((List.range k).filterMap f).length≤k:=by
 have:=List.length_filterMap_le f (List.range k)
 rwa [length_range] at this
theorem Lv(a:Nat)(x:List Nat)(ts:List Tl)(ha:a<128)(hx:x.length≤1000)(hs:ts.length≤1000)(hn:∀t∈ts,0<t.2.length∧t.2.length≤1000) :
  ∃s4 s5,yS (gNm 4) ZJ ((List.range x.length).map fun (k:Nat)=>D.int (0+k)) [some (.val (zE a)),some (.val (tx x)),some (.val (.lst (ts.map tlD))),some (.own []),none,none]=.nx [some (.val (zE a)),some (.val (tx x)),some (.val (.lst (ts.map tlD))),some (.own ((Wf a x ts).map tlD)),s4,s5]:=by
 refine byc fun zG_=>?_
 obtain⟨τ',h1,s4,s5,h2⟩:=ZI (set:=gNm 4) (body:=ZJ) (fun (k:Nat)=>D.int (0+k)) (fun k τ=>∃s4 s5,τ=[some (.val (zE a)),some (.val (tx x)),some (.val (.lst (ts.map tlD))),some (.own (((List.range k).filterMap (Y6 a x ts)).map tlD)),s4,s5]) x.length
  [some (.val (zE a)),some (.val (tx x)),some (.val (.lst (ts.map tlD))),some (.own []),none,none] ⟨_,_,rfl⟩ fun k τ hk z_=>by
   obtain⟨s4,s5,e⟩:=z_
   subst e
   obtain⟨s',g⟩:=Lu a x ts ((List.range k).filterMap (Y6 a x ts)) k s5 ha hx hs hn hk (by have:=We (Y6 a x ts) k;lia)
   have e0:(0:Int)+(k:Int)=(k:Int):=by lia
   rw[Xh]
   exact⟨_,_,by rw[e0];exact jJ,g,_,_,rfl⟩
 refine zG_ ?_
 subst h2
 exact⟨s4,s5,h1⟩
theorem zi7(bd:FS)(ri:FA)(A B C:D)(n:Nat)(P:List D)(s4 s5:Option Sl)(r1:ri [some (.val A),some (.val B),some (.val C),some (.own []),none,none]=.ok ((List.range n).map fun (k:Nat)=>D.int (0+k)))
  (h1:yS (gNm 4) bd ((List.range n).map fun (k:Nat)=>D.int (0+k)) [some (.val A),some (.val B),some (.val C),some (.own []),none,none]=.nx [some (.val A),some (.val B),some (.val C),some (.own P),s4,s5]) :
  wu 6 (zC (v4 3 (fun τ=>(zi τ).bind fun ds=>if ds.length≤sizeLine then .ok ds else .no)) (zC (ug ri (gNm 4) bd) (uD 3))) [A,B,C]=.ok (.lst P):=by
 have st:zX 6 [A,B,C]=[some (.val A),some (.val B),some (.val C),none,none,none]:=rfl
 rw[yw,st]
 simp only[zR,w6,va,vb,vg,zM,getElem?_cons_zero,getElem?_cons_succ,set_cons_succ,set_cons_zero,xf,Rs.bind_ok,Fl.of_ok,yj,zU,if_true,length_nil,zero_le,r1,h1]
theorem Mv:vy=(zC (v4 3 (fun τ=>(zi τ).bind fun ds=>if ds.length≤sizeLine then .ok ds else .no)) (zC (ug (vB (za (yo yB (za (ze 1) zi)) zi)) (gNm 4) ZJ) (uD 3))):=by unfold vy ZJ;rfl
theorem QX(a:Nat)(x:List Nat)(ts:List Tl)(ha:a<128)(hx:x.length≤1000)(hs:ts.length≤1000)(hn:∀t∈ts,0<t.2.length∧t.2.length≤1000):xc [zE a,tx x,.lst (ts.map tlD)]=.ok (.lst ((Wf a x ts).map tlD)):=by
 obtain⟨s4,s5,h1⟩:=Lv a x ts ha hx hs hn
 unfold xc
 rw[Mv]
 exact zi7 _ _ _ _ _ x.length _ _ _ (YG (uN (zq rfl) (wm x hx)) hx) h1
theorem XV(x:List Nat):∀q:List Nat,(yZ q x).length≤x.length
 |[]=>by simp[yZ]
 |[a]=>by
  simp only[yZ,Y8,length_map]
  have:=length_filter_le (fun p=>wl a (x.getD p 0)) (List.range x.length)
  rwa [length_range] at this
 |a::b::q=>by simp only[yZ,Wf];exact We _ _
theorem Vk(q x:List Nat)(hq:q≠[])(hl:q.length≤1000):∀t∈yZ q x,0<t.2.length∧t.2.length≤1000:=fun t ht=>by
 have:=(ZQ x q t ht).1.len
 have:0<q.length:=List.length_pos_iff.mpr hq
 lia
noncomputable def Xp:FS:=(yR 2 (zv xc (za (eOp ixD (ze 0) (ze 3)) (za (ze 1) (za (ze 2) zi)))))
theorem LR(q x:List Nat)(m:Nat)(hm:q.length=m+1)(hq:q.length≤1000)(hx:x.length≤1000)(ha:∀c∈q,c<128) :
  ∃s,yS (gNm 3) Xp (ZT ((m:Int)-1) m) [some (.val (tx q)),some (.val (tx x)),some (.val (.lst ((yZ (q.drop m) x).map tlD))),none]=.nx [some (.val (tx q)),some (.val (tx x)),some (.val (.lst ((yZ q x).map tlD))),s]:=by
 refine byc fun zG_=>?_
 obtain⟨τ',h1,s,h2⟩:=ZI (set:=gNm 3) (body:=Xp) (fun (k:Nat)=>D.int ((m:Int)-1-k)) (fun k τ=>∃s,τ=[some (.val (tx q)),some (.val (tx x)),some (.val (.lst ((yZ (q.drop (m-k)) x).map tlD))),s]) m
  [some (.val (tx q)),some (.val (tx x)),some (.val (.lst ((yZ (q.drop m) x).map tlD))),none] ⟨_,rfl⟩ fun k τ hk z_=>by
   obtain⟨s,e⟩:=z_
   subst e
   obtain⟨j,hj⟩:∃j,m=j+1+k:=⟨m-1-k,by lia⟩
   have e0:(m:Int)-1-(k:Int)=(j:Int):=by lia
   have d1:q.drop (m-k)=q.drop (j+1):=by congr 1;lia
   have d2:q.drop (m-(k+1))=q.drop j:=by congr 1;lia
   have hjq:j<q.length:=by lia
   have hne:q.drop (j+1)≠[]:=fun h=>by
    have:=congrArg List.length h
    rw[List.length_drop] at this;simp at this;lia
   have hlg:=QX (q.getD j 0) x (yZ (q.drop (j+1)) x) (ha _ (mem_of_getElem? (Ze q j hjq))) hx (by have:=XV x (q.drop (j+1));lia) (Vk _ x hne (by rw[List.length_drop];lia))
   have ht:Wf (q.getD j 0) x (yZ (q.drop (j+1)) x)=yZ (q.drop j) x:=by
    have e1:q.drop j=q.getD j 0::q.drop (j+1):=by
     rw[drop_eq_getElem_cons hjq,getD_eq_getElem?_getD,getElem?_eq_getElem hjq];rfl
    rw[e1]
    cases e2:q.drop (j+1) with
    |nil=>exact absurd e2 hne
    |cons b r=>rfl
   rw[ht] at hlg
   rw[d1,d2]
   refine⟨[some (.val (tx q)),some (.val (tx x)),some (.val (.lst ((yZ (q.drop (j+1)) x).map tlD))),some (.val (.int (j:Int)))],[some (.val (tx q)),some (.val (tx x)),some (.val (.lst ((yZ (q.drop j) x).map tlD))),some (.val (.int (j:Int)))],by rw[e0];rfl,?_,_,rfl⟩
   unfold Xp
   rw[ya,u3 (op2 (zq rfl) (zq rfl) (XS q j hjq hq)) (zq rfl) (zq rfl) hlg,Fl.of_ok]
   rfl
 refine zG_ ?_
 subst h2
 refine⟨s,?_⟩
 rw[Nat.sub_self,drop_zero] at h1
 exact h1
noncomputable def ldE:FE:=(fun τ=>((wG 1 [] (ZM (ze 2)) (gNm 0) (fun _=>.ok true) (vx (za (eOp zO (eOp ixD (ze 0) (eC (.int 0))) (zv yV (za (eOp ixD (eOp ixD (ze 0) (eC (.int 1))) (eC (.int 0))) zi))) (za (eOp ixD (ze 0) (eC (.int 1))) zi)))) τ).bind fun ds=>.ok (.lst ds))
theorem ld_ok(A B:D)(ts:List Tl)(s:Option Sl)(hs:ts.length≤1000)(hn:∀t∈ts,0<t.2.length):ldE [some (.val A),some (.val B),some (.val (.lst (ts.map tlD))),s]=.ok (.lst ((ts.map MA).map tlD)):=by
 have cf:=Xm (set:=gNm 0) (fe:=(vx (za (eOp zO (eOp ixD (ze 0) (eC (.int 0))) (zv yV (za (eOp ixD (eOp ixD (ze 0) (eC (.int 1))) (eC (.int 0))) zi))) (za (eOp ixD (ze 0) (eC (.int 1))) zi)))) (τ:=[none]) tlD tlD MA ts fun t ht=>by
   refine⟨[some (.val (tlD t))],rfl,?_⟩
   have:=WU t.2 (hn t ht)
   exact Qg (op2 (op2 (zq rfl) rfl (Qi t)) (M7 (op2 (op2 (zq rfl) rfl (Qh t)) rfl this) (Lx _)) xg) (op2 (zq rfl) rfl (Qh t))
 have it:ZM (ze 2) [some (.val A),some (.val B),some (.val (.lst (ts.map tlD))),s]=.ok (ts.map tlD):=rfl
 have ec:=uz (k:=1) (idx:=[]) (τ:=[some (.val A),some (.val B),some (.val (.lst (ts.map tlD))),s]) it cf (by simpa using hs)
 unfold ldE
 simp only[ec,Rs.bind_ok]
theorem M9:U6=(zC (sIf (FD.tB (eOp eqD (yo yB (za (ze 0) zi)) (eC (.int 0)))) (xz (vx (za (eC (.int 0)) (za (uy zi) zi)))) yd)
  (zC (yR 2 (zv yi (za (eOp ixD (ze 0) (xQ (eC (.int 1)))) (za (ze 1) zi))))
  (zC (ug (Q4 (za (eOp Ya (yo yB (za (ze 0) zi)) (eC (.int 2))) (za (xQ (eC (.int 1))) (za (xQ (eC (.int 1))) zi)))) (gNm 3) Xp)
  (xz (zv zT (za ldE zi)))))):=by unfold U6 Xp ldE;rfl
theorem zg3(q:List Nat)(m:Nat)(hm:q.length=m+1)(hq:q.length≤1000):ixD (tx q) (.int (-1))=.ok (zE (q.getD m 0)):=by
 refine Yu ?_ (by rw[uW,zK];lia)
 have e:ixN q.length (-1)=some m:=by
  unfold ixN
  rw[if_neg (by lia),if_pos (by lia)]
  congr 1;lia
 unfold atI
 show(ixN q.length (-1)).bind _=_
 rw[e]
 exact Ze q m (by lia)
theorem bs_r3(q x:List Nat)(T:D)(m:Nat)(hm:q.length=m+1)(hq:q.length≤1000):Q4 (za (eOp Ya (yo yB (za (ze 0) zi)) (eC (.int 2))) (za (xQ (eC (.int 1))) (za (xQ (eC (.int 1))) zi))) [some (.val (tx q)),some (.val (tx x)),some (.val T),none]=.ok (ZT ((m:Int)-1) m):=by
 have a1:eOp Ya (yo yB (za (ze 0) zi)) (eC (.int 2)) [some (.val (tx q)),some (.val (tx x)),some (.val T),none]=.ok (.int ((m:Int)-1)):=by
  refine op2 (uN (zq rfl) (wm q hq)) rfl ?_
  rw[ue];congr 2;lia
 have a2:∀τ,xQ (eC (.int 1)) τ=.ok (.int (-1)):=fun τ=>rfl
 have r3:=zc6 (fs:=za (eOp Ya (yo yB (za (ze 0) zi)) (eC (.int 2))) (za (xQ (eC (.int 1))) (za (xQ (eC (.int 1))) zi))) (τ:=[some (.val (tx q)),some (.val (tx x)),some (.val T),none]) (i:=(m:Int)-1) (j:=-1)
  (by rw[zu,a1,Rs.bind_ok,zu,a2,Rs.bind_ok,zu,a2,Rs.bind_ok,zM,Rs.bind_ok,Rs.bind_ok,Rs.bind_ok]) (by lia) (by lia) (by lia) (by lia)
 rw[r3]
 congr 2
 lia
theorem zi8(g1:FT)(g2:FS)(e1 e2:FE)(r3:FA)(bd:FS)(A B T T' R:D)(L:List D)(s:Option Sl)(h0:g1 [some (.val A),some (.val B),none,none]=.ok false)(h1:e1 [some (.val A),some (.val B),none,none]=.ok T)(h2:r3 [some (.val A),some (.val B),some (.val T),none]=.ok L)(h3:yS (gNm 3) bd L [some (.val A),some (.val B),some (.val T),none]=.nx [some (.val A),some (.val B),some (.val T'),s])(h4:e2 [some (.val A),some (.val B),some (.val T'),s]=.ok R) :
  wu 4 (zC (sIf g1 g2 yd) (zC (yR 2 e1) (zC (ug r3 (gNm 3) bd) (xz e2)))) [A,B]=.ok R:=by
 have st:zX 4 [A,B]=[some (.val A),some (.val B),none,none]:=rfl
 rw[yw,st]
 simp only[zR,ya,yD,yf,zZ,vg,set_cons_succ,set_cons_zero,Fl.of_ok,yj,zU,Bool.false_eq_true,if_false,h0,h1,h2,h3,h4]
theorem LS(q x:List Nat)(hne:q≠[])(hq:q.length≤1000)(hx:x.length≤1000)(ha:∀c∈q,c<128):vW [tx q,tx x]=.ok (jm (Ta q x)):=by
 have hpos:0<q.length:=List.length_pos_iff.mpr hne
 obtain⟨m,hm⟩:∃m,q.length=m+1:=⟨q.length-1,by lia⟩
 obtain⟨s,hl⟩:=LR q x m hm hq hx ha
 have hmem:q.getD m 0∈q:=mem_of_getElem? (Ze q m (by lia))
 have d:yZ (q.drop m) x=Y8 (q.getD m 0) x:=by
  have e1:q.drop m=[q.getD m 0]:=by
   rw[drop_eq_getElem_cons (by lia),getD_eq_getElem?_getD,getElem?_eq_getElem (by lia:m<q.length),List.drop_eq_nil_of_le (by lia)];rfl
  rw[e1];rfl
 rw[d] at hl
 have h0:FD.tB (eOp eqD (yo yB (za (ze 0) zi)) (eC (.int 0))) [some (.val (tx q)),some (.val (tx x)),none,none]=.ok false:=by
  refine xY (op2 (uN (zq rfl) (wm q hq)) rfl ?_)
  rw[vw]
  congr 2
  simp;exact hne
 have h1:zv yi (za (eOp ixD (ze 0) (xQ (eC (.int 1)))) (za (ze 1) zi)) [some (.val (tx q)),some (.val (tx x)),none,none]=.ok (.lst ((Y8 (q.getD m 0) x).map tlD)):=
  Z5 (op2 (zq rfl) rfl (zg3 q m hm hq)) (zq rfl) (XI _ x (ha _ hmem) hx)
 have h4:zv zT (za ldE zi) [some (.val (tx q)),some (.val (tx x)),some (.val (.lst ((yZ q x).map tlD))),s]=.ok (jm (Ta q x)):=
  M7 (ld_ok _ _ _ _ (by have:=XV x q;lia) fun t ht=>(Vk q x hne hq t ht).1) (zb1 _)
 unfold vW
 rw[M9]
 exact zi8 _ _ _ _ _ _ _ _ _ _ _ _ _ h0 h1 (bs_r3 q x _ m hm hq) hl h4
noncomputable def Wr(q x:List Nat):Option Tl:=if q=[] then some (0,[]) else Ta q x
end Law
set_option Elab.async false
set_option linter.all false
set_option maxHeartbeats 1000000
namespace FD
open PySem PySem.Spec PyProof.Rows L2
theorem zg8{fi:FA}{τ:DS}{ds:List D}(h:fi τ=.ok ds)(hl:ds.length≤2000):VO fi τ=.ok ds:=by
 unfold VO
 rw[h,Rs.bind_ok]
 exact if_pos (by lia)
theorem L6{g:FT}{τ:DS}{b:Bool}(h:g τ=.ok b):uP g τ=.ok (!b):=by rw[Je,h];rfl
theorem L9{fe:FE}{fl fh:FO}{τ:DS}{d r:D}{l u:Option Int}(h1:fe τ=.ok d)(h2:fl τ=.ok l)(h3:fh τ=.ok u)(h:slD d l u=.ok r):eSl fe fl fh τ=.ok r:=by
 rw[M1,h1,Rs.bind_ok,h2,Rs.bind_ok,h3,Rs.bind_ok,h]
theorem za3{fe:FE}{τ:DS}{i:Int}(h:fe τ=.ok (.int i)):ve fe τ=.ok (some i):=by rw[YX,h];rfl
theorem Mb{f g:FT}{τ:DS}{b:Bool}(h1:f τ=.ok false)(h2:g τ=.ok b):Z9 f g τ=.ok b:=by rw[uO,h1,Rs.bind_ok,if_neg (by simp),h2]
end FD
namespace Law
open PySem PySem.Spec PyProof.Rows L2 FD
theorem zj8(a b:List Nat)(ha:a.length≤1000)(hb:b.length≤1000):zO (tx a) (tx b)=.ok (tx (a++b)):=by
 rw[U8 (by rw[uW,uW,zK];lia),Tq]
theorem zg1{τ:DS}:uy zi τ=.ok (.lst []):=by
 rw[W8,zM,Rs.bind_ok];exact if_pos (zero_le _)
theorem Te(q x:List Nat)(hq:q.length≤1000)(hx:x.length≤1000)(ha:∀c∈q,c<128):vW [tx q,tx x]=.ok (jm (Wr q x)):=by
 by_cases z:q=[]
 ·subst z
  have st:zX 4 [tx [],tx x]=[some (.val (tx [])),some (.val (tx x)),none,none]:=rfl
  have hl:=wm [] (by simp)
  have hg:FD.tB (eOp eqD (yo yB (za (ze 0) zi)) (eC (.int 0))) [some (.val (tx [])),some (.val (tx x)),none,none]=.ok true:=xY (op2 (uN (zq rfl) hl) rfl rfl)
  have he:vx (za (eC (.int 0)) (za (uy zi) zi)) [some (.val (tx [])),some (.val (tx x)),none,none]=.ok (.tup [.int 0,.lst []]):=Qg rfl zg1
  unfold vW
  rw[M9,yw,st,zR,yD,hg,Fl.of_ok,if_pos rfl,yf,he]
  rfl
 ·have:=LS q x z hq hx ha
  rw[this]
  unfold Wr
  rw[if_neg z]
theorem Q8(fc:FA)(g:FT)(fx:FE)(A B C:D)(L:List D)(b:Bool)(d:D)(h1:fc [some (.val A),some (.val B),some (.val C),none]=.ok L)(h2:g [some (.val A),some (.val B),some (.val C),some (.own L)]=.ok b)
  (h3:b=true→fx [some (.val A),some (.val B),some (.val C),some (.own L)]=.ok d∧0<L.length) :
  wu 4 (zC (v4 3 fc) (zC (sIf g (Qq 3 (eC (.int 0)) fx) yd) (uD 3))) [A,B,C]=.ok (.lst (if b=true then L.set 0 d else L)):=by
 have st:zX 4 [A,B,C]=[some (.val A),some (.val B),some (.val C),none]:=rfl
 rw[yw,st]
 cases b with
 |false=>simp only[zR,w6,yD,va,vb,zZ,WA,yG,getElem?_cons_zero,getElem?_cons_succ,set_cons_succ,set_cons_zero,xf,Fl.of_ok,yj,zU,Bool.false_eq_true,if_false,h1,h2,w6,va,vb,xf,Bool.false_eq_true,if_false]
 |true=>
  obtain⟨h3,h4⟩:=h3 rfl
  have hp:=GJ (n:=3) (τ:=[some (.val A),some (.val B),some (.val C),some (.own L)]) (d:=d) (j:=0) h4
  have e0:(((0:Nat):Int))=0:=rfl
  rw[e0] at hp
  simp only[zR,w6,yD,va,vb,zZ,WA,yG,getElem?_cons_zero,getElem?_cons_succ,set_cons_succ,set_cons_zero,xf,Fl.of_ok,yj,zU,if_true,h1,h2,h3,w6,va,vb,xf,WA,hp]
theorem zg5:uC=(zC (v4 3 (wG 1 [0,1] (vB (za (zv zr (za (ze 0) (za (ze 1) (za (eOp zO (ze 2) (eC (.int 1))) zi)))) zi)) (gNm 0) (fun _=>.ok true) (zv xB (za (ze 1) (za (eOp zO (eOp zO (ze 2) (eC (.int 1))) (eOp vV (eC (.int 12)) (ze 0))) zi)))))
  (zC (sIf (uQ (FD.tB (eOp gtD (Zl 3) (eC (.int 1)))) (FD.tB (eOp eqD (zv zr (za (ze 0) (za (eOp zO (ze 1) (eC (.int 12))) (za (eC (.int 5)) zi)))) (eC (.int 0))))) (Qq 3 (eC (.int 0)) (Gb 3 (xQ (eC (.int 1))))) yd)
  (uD 3))):=by unfold uC;rfl
noncomputable def U9(x:List Nat):Prop:=0<x.length∧x.length≤10∧∀c∈x,c∈NS
theorem Mq(ns:List Int)(a:Int)(h0:0≤a):U9 (vK ns a (Wb ns a)):=by
 have d:=wZ ns a (m:=10) (by decide)
 have hl:(vK ns a (Wb ns a)).length=(1+xR ns a 10).toNat:=by simp[vK,Wb]
 refine⟨by rw[hl];lia,by rw[hl];lia,fun c hc=>?_⟩
 obtain⟨k,_,rfl⟩:=mem_map.mp hc
 exact QO ns a k (by lia)
theorem zb4{f g:FT}{τ:DS}{b c:Bool}(h1:f τ=.ok b)(h2:b=true→g τ=.ok c):uQ f g τ=.ok (b&&c):=by
 rw[vF,h1,Rs.bind_ok]
 cases b with
 |false=>rfl
 |true=>rw[if_pos rfl,h2 rfl];rfl
theorem Mp(ns:List Int)(a most:Int)(h63:ns.length≤63)(h0:0≤a)(ha:a<800000)(hm0:0≤most)(hm1:most<50) :
  ∃X:List (List Nat),xL [.scr ns,.int a,.int most]=.ok (.lst (X.map tx))∧(X.length:Int)≤most∧∀x∈X,U9 x:=by
 have dl:=wZ ns a (m:=most+1) (by lia)
 have dk:=wz ns a (most+1) h63 h0 (by lia) (by lia)
 have dk2:=wz ns (a+12) 5 h63 (by lia) (by lia) (by decide)
 generalize hN:xR ns a (most+1)=N at *
 generalize xR ns (a+12) 5=M at *
 have cf:=Xm (set:=gNm 0) (fe:=(zv xB (za (ze 1) (za (eOp zO (eOp zO (ze 2) (eC (.int 1))) (eOp vV (eC (.int 12)) (ze 0))) zi)))) (τ:=[none,some (.val (.scr ns)),some (.val (.int a))]) (fun (k:Nat)=>D.int (0+k)) tx
  (fun k=>vK ns (a+1+12*(k:Int)) (Wb ns (a+1+12*(k:Int)))) (List.range N.toNat) fun k hk=>by
   have hk:=mem_range.mp hk
   refine⟨[some (.val (.int (k:Int))),some (.val (.scr ns)),some (.val (.int a))],by rw[Int.zero_add];rfl,?_⟩
   exact Z5 (zq rfl) (op2 (op2 (zq rfl) rfl xg) (op2 rfl (zq rfl) (vU (by lia))) xg) (Ln ns _ h63 (by lia) (by lia))
 have it:vB (za (zv zr (za (ze 0) (za (ze 1) (za (eOp zO (ze 2) (eC (.int 1))) zi)))) zi) [some (.val (.scr ns)),some (.val (.int a)),some (.val (.int most)),none]=.ok ((List.range N.toNat).map fun (k:Nat)=>D.int (0+k)):=
  YG (n:=N.toNat) (by rw[Int.toNat_of_nonneg dl.1];exact u3 (zq rfl) (zq rfl) (op2 (zq rfl) rfl xg) dk) (by lia)
 have ec:=uz (k:=1) (idx:=[0,1]) it cf (by simp;lia)
 generalize hX0:(List.range N.toNat).map (fun (k:Nat)=>vK ns (a+1+12*(k:Int)) (Wb ns (a+1+12*(k:Int))))=X0 at ec cf
 have l0:X0.length=N.toNat:=by rw[← hX0];simp
 have ok0:∀x∈X0,U9 x:=fun x hx=>by
  rw[← hX0] at hx
  obtain⟨k,_,rfl⟩:=mem_map.mp hx
  exact Mq ns _ (by lia)
 have hg:uQ (FD.tB (eOp gtD (Zl 3) (eC (.int 1)))) (FD.tB (eOp eqD (zv zr (za (ze 0) (za (eOp zO (ze 1) (eC (.int 12))) (za (eC (.int 5)) zi)))) (eC (.int 0)))) [some (.val (.scr ns)),some (.val (.int a)),some (.val (.int most)),some (.own (X0.map tx))]=.ok (decide (1<(X0.length:Int))&&(M==0)):=
  zb4 (xY (op2 (a:=.int (X0.length:Int)) (by rw[Zk];show Rs.ok (D.int ((X0.map tx).length:Int))=_;rw[length_map]) rfl V1)) fun _=>xY (op2 (u3 (zq rfl) (op2 (zq rfl) rfl xg) rfl dk2) rfl vw)
 have hne:(decide (1<(X0.length:Int))&&(M==0))=true→0<X0.length:=fun h=>by
  rw[Bool.and_eq_true,decide_eq_true_eq] at h;lia
 have e:=Q8 _ _ (Gb 3 (xQ (eC (.int 1)))) (.scr ns) (.int a) (.int most) (X0.map tx) _ (tx (X0.getD (X0.length-1) [])) ec hg fun h=>by
  have hp:=hne h
  refine⟨?_,by rw[length_map];exact hp⟩
  rw[LM]
  show(Rs.ok (X0.map tx)).bind (fun ds=>(xQ (eC (.int 1)) _).bind (ixO ds))=_
  rw[Rs.bind_ok,Yw,yG,Rs.bind_ok]
  show(Rs.ok (D.int (-1))).bind _=_
  rw[Rs.bind_ok]
  unfold ixO
  have:atI (X0.map tx) (-1)=some (tx (X0.getD (X0.length-1) [])):=by
   have e:ixN (X0.map tx).length (-1)=some (X0.length-1):=by
    unfold ixN
    rw[length_map,if_neg (by lia),if_pos (by lia)]
    congr 1;lia
   unfold atI
   rw[e]
   show(X0.map tx)[X0.length-1]?=_
   rw[getElem?_map,getElem?_eq_getElem (by lia)]
   simp[show X0.length-1<X0.length by lia]
  simp only[this]
 unfold xL
 rw[zg5,e]
 cases hb:(decide (1<(X0.length:Int))&&(M==0)) with
 |false=>exact⟨X0,by rw[if_neg (by simp)],by lia,ok0⟩
 |true=>
  have hp:=hne hb
  refine⟨X0.set 0 (X0.getD (X0.length-1) []),by rw[if_pos rfl,List.map_set],by rw[length_set];lia,fun x hx=>?_⟩
  rcases List.mem_or_eq_of_mem_set hx with h|h
  ·exact ok0 x h
  ·rw[h]
   have:X0.getD (X0.length-1) []=X0[X0.length-1]'(by lia):=by simp[show X0.length-1<X0.length by lia]
   rw[this]
   exact ok0 _ (getElem_mem _)
theorem VZ{α β:Type}(f:α→β)(x:List Int×α):∀l:List (List Int×α),Xc (x.1,f x.2) (l.map fun p=>(p.1,f p.2))=(Xc x l).map fun p=>(p.1,f p.2):=by
 intro l_
 induction l_ with
 |nil=>
  exact rfl
 |cons y r ih_=>
  rw[map_cons,Xc,Xc]
  split
  ·rfl
  ·rw[ih_];rfl
theorem XZ{α β:Type}(f:α→β):∀l:List (List Int×α),wI (l.map fun p=>(p.1,f p.2))=(wI l).map fun p=>(p.1,f p.2):=by
 intro l_
 induction l_ with
 |nil=>
  exact rfl
 |cons x r ih_=>
  rw[map_cons,wI,wI,ih_,VZ]
noncomputable def ZR{α:Type}(key:α→List Int)(rs:List α):List α:=(wI (rs.map fun r=>(key r,r))).map (·.2)
theorem Ts{α:Type}(key:α→List Int)(f:α→D)(rs:List α):(wI ((rs.map key).zip (rs.map f))).map (·.2)=(ZR key rs).map f:=by
 have e:(rs.map key).zip (rs.map f)=(rs.map fun r=>(key r,r)).map fun p=>(p.1,f p.2):=by
  induction rs with
  |nil=>rfl
  |cons r rs ih=>simp only[map_cons,List.zip_cons_cons,ih]
 rw[e,XZ]
 unfold ZR
 rw[map_map,map_map];rfl
noncomputable def kD(k:List Int):D:=.tup (k.map D.int)
theorem Wj:∀k:List Int,Xa (k.map D.int)=some k:=by
 intro l_
 induction l_ with
 |nil=>
  exact rfl
 |cons i k ih_=>
  show(Xa (k.map D.int)).map (i :: ·)=_
  rw[ih_];rfl
theorem zh7(k:List Int):LA (kD k)=some k:=Wj k
theorem Wh{α:Type}(key:α→List Int):∀rs:List α,Z0 (rs.map fun r=>kD (key r))=some (rs.map key):=by
 intro l_
 induction l_ with
 |nil=>
  exact rfl
 |cons r rs ih_=>
  rw[map_cons,Z0,zh7,ih_];rfl
theorem Us{α:Type}(key:α→List Int)(f:α→D)(rs:List α)(h64:rs.length<64)(nd:(rs.map key).Nodup)(ne:∀r,key r≠[]):Zx (rs.map fun r=>kD (key r)) (rs.map f)=.ok (.lst ((ZR key rs).map f)):=by
 unfold Zx
 rw[Wh]
 simp only
 rw[if_pos ⟨by simpa using h64,nd,fun k hk=>by obtain⟨r,_,rfl⟩:=mem_map.mp hk;exact ne r⟩,Ts]
theorem ZY{α:Type}{idx:List Nat}{fb:FE}{τ:DS}(key:α→List Int)(f:α→D):∀rs:List α,(∀r∈rs,Q1 idx fb τ (f r)=.ok (kD (key r)))→vm idx fb τ (rs.map f)=.ok (rs.map fun r=>kD (key r)):=by
 intro l_
 induction l_ with
 |nil=>
  rintro _
  exact rfl
 |cons r rs ih_=>
  rintro h
  rw[map_cons,vm,h r mem_cons_self]
  simp only[ih_ fun s hs=>h s (mem_cons_of_mem _ hs),map_cons]
theorem U0{α:Type}{idx:List Nat}{fe fb:FE}{τ:DS}(key:α→List Int)(f:α→D)(rs:List α)(h:fe τ=.ok (.lst (rs.map f)))(hk:∀r∈rs,Q1 idx fb τ (f r)=.ok (kD (key r)))(h64:rs.length<64)(nd:(rs.map key).Nodup)(ne:∀r,key r≠[]) :
  Xk idx fe fb τ=.ok (.lst ((ZR key rs).map f)):=by
 unfold Xk
 rw[h,Rs.bind_ok]
 simp only[ZY key f rs hk]
 exact Us key f rs h64 nd ne
noncomputable abbrev Rw:=Int×Nat
noncomputable def xk(r:Rw):D:=.tup [.int r.1,.int (r.2:Int)]
theorem row_0(r:Rw):ixD (xk r) (.int 0)=.ok (.int r.1):=rfl
theorem za0(r:Rw):ixD (xk r) (.int 1)=.ok (.int (r.2:Int)):=rfl
theorem X8{key:Rw→List Int}(hk:∀r s,key r=key s→r.2=s.2):∀rs:List Rw,(rs.map (·.2)).Nodup→(rs.map key).Nodup:=by
 intro l_
 induction l_ with
 |nil=>
  rintro _
  exact nodup_nil
 |cons r rs ih_=>
  rintro h
  rw[map_cons,nodup_cons] at h ⊢
  refine⟨fun hm=>h.1 ?_,ih_ h.2⟩
  obtain⟨s,hs,e⟩:=mem_map.mp hm
  exact mem_map.mpr ⟨s,hs,hk s r e⟩
noncomputable def WZ(X:List (List Nat))(r:Rw):List Int:=[-r.1,((X.getD r.2 []).length:Int),(r.2:Int)]
theorem MI(X:List (List Nat))(r s:Rw)(h:WZ X r=WZ X s):r.2=s.2:=by
 unfold WZ at h
 injection h with h1 h2
 injection h2 with h2 h3
 injection h3 with h3 _
 lia
theorem size3:∀a b c:D,([a,b,c]:List D).length≤sizeLine:=fun a b c=>by rw[zK];exact Nat.le_of_ble_eq_true rfl
theorem tup3{fa fb fc:FE}{τ:DS}{a b c:D}(h1:fa τ=.ok a)(h2:fb τ=.ok b)(h3:fc τ=.ok c):vx (za fa (za fb (za fc zi))) τ=.ok (.tup [a,b,c]):=by
 rw[J1,zu,h1,Rs.bind_ok,zu,h2,Rs.bind_ok,zu,h3,Rs.bind_ok,zM,Rs.bind_ok,Rs.bind_ok,Rs.bind_ok,Rs.bind_ok]
 exact if_pos (size3 a b c)
theorem zg2{fa:FE}{τ:DS}{i:Int}(h:fa τ=.ok (.int i)):xQ fa τ=.ok (.int (-i)):=by rw[Yw,h];rfl
theorem j8(X:List (List Nat))(i:Nat)(h:i<X.length):ixD (.lst (X.map tx)) (.int (i:Int))=.ok (tx (X.getD i [])):=by
 refine JQ (Vc ?_)
 rw[getElem?_map,getElem?_eq_getElem h]
 simp[h]
theorem To(ds:List D)(n:Nat):slD (.lst ds) none (some (n:Int))=.ok (.lst (ds.take n)):=by
 have:FD.cutD ds none (some (n:Int))=ds.take n:=by
  have e0:HT.sIx ds.length 0 none=0:=rfl
  have e1:HT.sIx ds.length ds.length (some (n:Int))=min n ds.length:=by
   unfold HT.sIx
   have:¬ ((n:Int)<0):=by lia
   simp[this]
  unfold FD.cutD
  rw[e0,e1,drop_zero,Nat.sub_zero]
  rcases Nat.le_total n ds.length with z|z
  ·rw[Nat.min_eq_left z]
  ·rw[Nat.min_eq_right z,List.take_length,List.take_of_length_le z]
 show Rs.ok (D.lst (FD.cutD ds none (some (n:Int))))=_
 rw[this]
theorem La:jK=(xz (Xk [0] (ze 1) (vx (za (xQ (eOp ixD (ze 0) (eC (.int 0)))) (za (yo yB (za (eOp ixD (ze 1) (eOp ixD (ze 0) (eC (.int 1)))) zi)) (za (eOp ixD (ze 0) (eC (.int 1))) zi)))))):=by unfold jK;rfl
structure zk6(X:List (List Nat))(rs:List Rw):Prop where
 few:rs.length<64
 nd:(rs.map (·.2)).Nodup
 lt:∀r∈rs,r.2<X.length
 sz:∀x∈X,x.length≤1000
theorem getD_mem{X:List (List Nat)}{i:Nat}(h:i<X.length):X.getD i []∈X:=by
 have:X.getD i []=X[i]:=by simp[h]
 rw[this];exact getElem_mem _
theorem Ma(X:List (List Nat))(rs:List Rw)(h:zk6 X rs):wd [.lst (X.map tx),.lst (rs.map xk)]=.ok (.lst ((ZR (WZ X) rs).map xk)):=by
 have st:zX 2 [.lst (X.map tx),.lst (rs.map xk)]=[some (.val (.lst (X.map tx))),some (.val (.lst (rs.map xk)))]:=rfl
 unfold wd
 rw[La,yw,st,yf,U0 (WZ X) xk rs (zq rfl) (fun r hr=>?_) h.few (X8 (MI X) rs h.nd) (fun r z=>nomatch z)]
 ·rfl
 ·have hlt:=h.lt r hr
  have hsz:=h.sz _ (getD_mem hlt)
  have:vx (za (xQ (eOp ixD (ze 0) (eC (.int 0)))) (za (yo yB (za (eOp ixD (ze 1) (eOp ixD (ze 0) (eC (.int 1)))) zi)) (za (eOp ixD (ze 0) (eC (.int 1))) zi))) [some (.val (xk r)),some (.val (.lst (X.map tx)))]=.ok (kD (WZ X r)):=tup3 (zg2 (op2 (zq rfl) rfl (row_0 r))) (uN (op2 (zq rfl) (op2 (zq rfl) rfl (za0 r)) (j8 X r.2 hlt)) (wm _ hsz)) (op2 (zq rfl) rfl (za0 r))
  exact this
theorem zg7(i j:Int):Y2 [.int i,.int j]=.ok (.int (if i<j then j else i)):=rfl
theorem LL:uB=(X1 (fSl (zv wd (za (ze 0) (za (ze 1) zi))) j7 (ve (yo Y2 (za (ze 2) (za (eC (.int 0)) zi)))))):=by unfold uB;rfl
theorem blt2{g:List D→Rs D}{fa fb:FE}{τ:DS}{a b d:D}(h1:fa τ=.ok a)(h2:fb τ=.ok b)(h:g [a,b]=.ok d):yo g (za fa (za fb zi)) τ=.ok d:=by
 rw[wN,zu,h1,Rs.bind_ok,zu,h2,Rs.bind_ok,zM,Rs.bind_ok,Rs.bind_ok,Rs.bind_ok,h]
theorem ze5{fa:FE}{τ:DS}{i:Int}(h:fa τ=.ok (.int i)):ve fa τ=.ok (some i):=by rw[YX,h];rfl
theorem M4(ds:List D)(n:Nat):FD.cutD ds none (some (n:Int))=ds.take n:=by
 have:=To ds n
 have e:slD (.lst ds) none (some (n:Int))=Rs.ok (D.lst (FD.cutD ds none (some (n:Int)))):=rfl
 rw[e] at this
 injection this with this
 injection this with this
theorem zj1{fe:FE}{fl fh:FO}{τ:DS}{ds:List D}{l u:Option Int}(h1:fe τ=.ok (.lst ds))(h2:fl τ=.ok l)(h3:fh τ=.ok u):fSl fe fl fh τ=.ok (FD.cutD ds l u):=by
 unfold fSl
 rw[h1,Rs.bind_ok,h2,Rs.bind_ok,h3,Rs.bind_ok]
theorem Ga(X:List (List Nat))(rs:List Rw)(many:Nat)(h:zk6 X rs):yW [.lst (X.map tx),.lst (rs.map xk),.int (many:Int)]=.ok (((ZR (WZ X) rs).take many).map xk):=by
 have st:zX 3 [.lst (X.map tx),.lst (rs.map xk),.int (many:Int)]=[some (.val (.lst (X.map tx))),some (.val (.lst (rs.map xk))),some (.val (.int (many:Int)))]:=rfl
 have hm:Y2 [.int (many:Int),.int 0]=.ok (.int (many:Int)):=by
  rw[zg7];rw[if_neg (by lia)]
 have e:fSl (zv wd (za (ze 0) (za (ze 1) zi))) j7 (ve (yo Y2 (za (ze 2) (za (eC (.int 0)) zi)))) [some (.val (.lst (X.map tx))),some (.val (.lst (rs.map xk))),some (.val (.int (many:Int)))]=.ok (((ZR (WZ X) rs).take many).map xk):=by
  rw[zj1 (Z5 (zq rfl) (zq rfl) (Ma X rs h)) rfl (ze5 (blt2 (zq rfl) rfl hm)),M4,List.map_take]
 unfold yW FD.runN
 rw[LL,st]
 unfold X1
 rw[e,Fl.of_ok]
 rfl
noncomputable def fr1(X:List (List Nat))(q:List Nat)(i:Nat):Option Rw:=(Wr q (X.getD i [])).map fun t=>(t.1,i)
noncomputable def Zg:FS:=(zC (yR 5 (zv vW (za (ze 1) (za (eOp ixD (ze 0) (ze 4)) zi))))
  (sIf (FD.tB (eOp uw (ze 5) (eC .non))) (Xy 3 (vx (za (eOp ixD (ze 5) (eC (.int 0))) (za (ze 4) zi)))) yd))
theorem fit_b:vz=(zC (v4 3 (fun τ=>(zi τ).bind fun ds=>if ds.length≤sizeLine then .ok ds else .no)) (zC (ug (ZM (ze 2)) (gNm 4) Zg) (uD 3))):=by unfold vz Zg;rfl
theorem MW(e e2:FE)(a0 a1 a2 a3 a4 a5:Option Sl)(h:e [a0,a1,a2,a3,a4,a5]=.ok .non) :
  (zC (yR 5 e) (sIf (FD.tB (eOp uw (ze 5) (eC .non))) (Xy 3 e2) yd)) [a0,a1,a2,a3,a4,a5]=.nx [a0,a1,a2,a3,a4,some (.val .non)]:=by
 simp only[zR,ya,yD,zZ,vG,xZ,yc,zG,yG,getElem?_cons_zero,getElem?_cons_succ,set_cons_succ,set_cons_zero,zB,Rs.bind_ok,Fl.of_ok,yj,zW,Bool.false_eq_true,if_false,h,Wi]
theorem MV(e e2:FE)(a0 a1 a2 a4 a5:Option Sl)(L:List D)(t:Tl)(R:D)(h:e [a0,a1,a2,some (.own L),a4,a5]=.ok (tlD t))(h2:e2 [a0,a1,a2,some (.own L),a4,some (.val (tlD t))]=.ok R)(hl:L.length<sizeLine) :
  (zC (yR 5 e) (sIf (FD.tB (eOp uw (ze 5) (eC .non))) (Xy 3 e2) yd)) [a0,a1,a2,some (.own L),a4,a5]=.nx [a0,a1,a2,some (.own (L++[R])),a4,some (.val (tlD t))]:=by
 simp only[zR,ya,yD,zZ,vG,xZ,yc,zG,yG,getElem?_cons_zero,getElem?_cons_succ,set_cons_succ,set_cons_zero,zB,xf,Rs.bind_ok,Fl.of_ok,yj,zW,if_true,h,VU,h2,vG,xf]
 rw[if_pos hl]
theorem MX(X:List (List Nat))(q:List Nat)(i:Nat)(a2 a5:Option Sl)(acc:List Rw)(hi:i<X.length)(hq:q.length≤1000)(hX:∀x∈X,x.length≤1000)(ha:∀c∈q,c<128)(hc:acc.length≤1000) :
  ∃t5,Zg [some (.val (.lst (X.map tx))),some (.val (tx q)),a2,some (.own (acc.map xk)),some (.val (.int (i:Int))),a5]=.nx [some (.val (.lst (X.map tx))),some (.val (tx q)),a2,some (.own ((acc++(fr1 X q i).toList).map xk)),some (.val (.int (i:Int))),t5]:=by
 have hb:=Te q (X.getD i []) hq (hX _ (getD_mem hi)) ha
 have he:zv vW (za (ze 1) (za (eOp ixD (ze 0) (ze 4)) zi)) [some (.val (.lst (X.map tx))),some (.val (tx q)),a2,some (.own (acc.map xk)),some (.val (.int (i:Int))),a5]=.ok (jm (Wr q (X.getD i []))):=
  Z5 (zq rfl) (op2 (zq rfl) (zq rfl) (j8 X i hi)) hb
 unfold Zg fr1
 cases z:Wr q (X.getD i []) with
 |none=>
  rw[z] at he
  exact⟨some (.val .non),(MW _ _ _ _ _ _ _ _ he).trans (by simp)⟩
 |some t=>
  rw[z] at he
  have h2:vx (za (eOp ixD (ze 5) (eC (.int 0))) (za (ze 4) zi)) [some (.val (.lst (X.map tx))),some (.val (tx q)),a2,some (.own (acc.map xk)),some (.val (.int (i:Int))),some (.val (tlD t))]=.ok (xk (t.1,i)):=Qg (op2 (zq rfl) rfl (Qi t)) (zq rfl)
  exact⟨some (.val (tlD t)),(MV _ _ _ _ _ _ _ _ t _ he h2 (by rw[zK,length_map];lia)).trans (by simp)⟩
noncomputable def W4(X:List (List Nat))(q:List Nat)(is:List Nat):List Rw:=is.flatMap fun i=>(fr1 X q i).toList
theorem V5(X:List (List Nat))(q:List Nat)(a2:Option Sl)(hq:q.length≤1000)(hX:∀x∈X,x.length≤1000)(ha:∀c∈q,c<128):∀(is:List Nat) (acc:List Rw) (a4 a5:Option Sl),(∀i∈is,i<X.length)→acc.length+is.length≤1000 →
  ∃t4 t5,yS (gNm 4) Zg (is.map fun (i:Nat)=>D.int i) [some (.val (.lst (X.map tx))),some (.val (tx q)),a2,some (.own (acc.map xk)),a4,a5]=.nx [some (.val (.lst (X.map tx))),some (.val (tx q)),a2,some (.own ((acc++W4 X q is).map xk)),t4,t5]:=by
 intro l_
 induction l_ with
 |nil=>
  rintro acc a4 a5 _ _
  exact⟨a4,a5,by unfold W4;simp[yS]⟩
 |cons i is ih_=>
  rintro acc a4 a5 hi hc
  rw[length_cons] at hc
  refine byc fun zG_=>?_
  obtain⟨t5,e⟩:=MX X q i a2 a5 acc (hi i mem_cons_self) hq hX ha (by lia)
  have hl:(acc++(fr1 X q i).toList).length+is.length≤1000:=by
   rw[length_append]
   have:(fr1 X q i).toList.length≤1:=by cases fr1 X q i <;> simp
   lia
  obtain⟨u4,u5,ih⟩:=ih_ (acc++(fr1 X q i).toList) (some (.val (.int (i:Int)))) t5 (fun j hj=>hi j (mem_cons_of_mem _ hj)) hl
  refine zG_ ?_
  refine⟨u4,u5,?_⟩
  rw[map_cons,yS,jJ,Fl.of_ok]
  simp only[set_cons_succ,set_cons_zero,e]
  rw[ih]
  unfold W4
  rw[List.flatMap_cons,append_assoc]
theorem nilO(τ:DS):(fun τ=>(zi τ).bind fun ds=>if ds.length≤sizeLine then Rs.ok ds else Rs.no) τ=.ok []:=by
 show(if ([]:List D).length≤sizeLine then Rs.ok [] else Rs.no)=_
 exact if_pos (zero_le sizeLine)
theorem MU(e:FA)(b:FS)(A B C:D)(L R:List D)(t4 t5:Option Sl)(h0:e [some (.val A),some (.val B),some (.val C),none,none,none]=.ok [])(hi:JR C=.ok L)
  (h1:yS (gNm 4) b L [some (.val A),some (.val B),some (.val C),some (.own []),none,none]=.nx [some (.val A),some (.val B),some (.val C),some (.own R),t4,t5]) :
  wu 6 (zC (v4 3 e) (zC (ug (ZM (ze 2)) (gNm 4) b) (uD 3))) [A,B,C]=.ok (.lst R):=by
 have st:zX 6 [A,B,C]=[some (.val A),some (.val B),some (.val C),none,none,none]:=rfl
 rw[yw,st]
 simp only[zR,w6,va,vb,vg,JV,zG,getElem?_cons_zero,getElem?_cons_succ,set_cons_succ,set_cons_zero,zB,xf,Rs.bind_ok,Fl.of_ok,yj,zU,h0,hi,h1,w6,va,vb,xf]
theorem LJ(X:List (List Nat))(q:List Nat)(is:List Nat)(hq:q.length≤1000)(hX:∀x∈X,x.length≤1000)(ha:∀c∈q,c<128)(hi:∀i∈is,i<X.length)(hl:is.length≤1000) :
  yI [.lst (X.map tx),tx q,.lst (is.map fun (i:Nat)=>D.int i)]=.ok (.lst ((W4 X q is).map xk)):=by
 obtain⟨t4,t5,h⟩:=V5 X q (some (.val (.lst (is.map fun (i:Nat)=>D.int i)))) hq hX ha is [] none none hi (by simpa using hl)
 unfold yI
 rw[fit_b]
 exact MU _ _ _ _ _ _ _ _ _ (nilO _) rfl (by simpa using h)
theorem Wk:∀rs:List Rw,plainDs (rs.map xk)=true∧PyData.canLayAll0 (toPys (rs.map xk))=true∧PyData.depthAll (toPys (rs.map xk))≤1:=by
 intro l_
 induction l_ with
 |nil=>
  exact⟨rfl,rfl,zero_le _⟩
 |cons r rs ih_=>
  obtain⟨h1,h2,h3⟩:=ih_
  refine⟨by simp[plainDs,wa,xk,h1],by simp[toPys,xX,xk,PyData.canLayAll0,PyData.canLay0,h2],?_⟩
  simp only[map_cons,toPys,xX,xk,PyData.depthAll,PyData.depth]
  lia
theorem V7:∀rs:List Rw,PyData.eqvAll (toPys (rs.map xk)) (toPys (rs.map xk))=true:=by
 intro l_
 induction l_ with
 |nil=>
  rfl
 |cons r rs ih_=>
  have:=ih_
  simp[toPys,xX,xk,PyData.eqvAll,PyData.eqv,this]
noncomputable def abcN:List Nat:=[97,98,99]
theorem abc_s:("abc" : Str)=⟨abcN.toArray⟩:=by decide +kernel
theorem zk2:U9 abcN:=⟨by decide,by decide,by decide⟩
theorem LQ(X:List (List Nat))(h:X.length≤1000):zO (.lst (X.map tx)) (.lst [.str "abc"])=.ok (.lst ((X++[abcN]).map tx)):=by
 show(if _ then Rs.ok (D.lst _) else Rs.no)=_
 rw[if_pos (by rw[zK,length_map,length_singleton];lia),map_append,abc_s]
 rfl
noncomputable def qE(a b m:Int):FE:=(zv xK (za (ze 0) (za (eC (.int a)) (za (eOp ixD (eOp zO (ze 1) (uy (za (eC (.str "abc")) zi))) (zv zr (za (ze 0) (za (eC (.int b)) (za (eOp zO (yo yB (za (ze 1) zi)) (eC (.int 1))) zi))))) (za (eC (.int m)) zi)))))
theorem zj4{f:List D→Rs D}{fa fb fc fd:FE}{τ:DS}{a b c d r:D}(h1:fa τ=.ok a)(h2:fb τ=.ok b)(h3:fc τ=.ok c)(h4:fd τ=.ok d)(h:f [a,b,c,d]=.ok r):zv f (za fa (za fb (za fc (za fd zi)))) τ=.ok r:=by
 rw[yA,zu,h1,Rs.bind_ok,zu,h2,Rs.bind_ok,zu,h3,Rs.bind_ok,zu,h4,Rs.bind_ok,zM,Rs.bind_ok,Rs.bind_ok,Rs.bind_ok,Rs.bind_ok,Rs.bind_ok,h];rfl
theorem qE_ok(ns:List Int)(X:List (List Nat))(a b m:Int)(h63:ns.length≤63)(ha0:0≤a)(ha:a<900000)(hb0:0≤b)(hb:b<900000)(hm0:0≤m)(hm:m<50)(hX:∀x∈X,U9 x)(hl:X.length≤1000)(r:DS) :
  ∃q:List Nat,(q.length:Int)≤m∧(∀c∈q,c∈QS)∧qE a b m (some (.val (.scr ns))::some (.val (.lst (X.map tx)))::r)=.ok (tx q):=by
 have dl:=wZ ns b (m:=(X.length:Int)+1) (by lia)
 have dk:=wz ns b ((X.length:Int)+1) h63 hb0 (by lia) (by lia)
 generalize xR ns b ((X.length:Int)+1)=M at dl dk
 have hi:M.toNat<(X++[abcN]).length:=by rw[length_append,length_singleton];lia
 have hm':(X++[abcN]).getD M.toNat []∈X++[abcN]:=getD_mem hi
 have hn:U9 ((X++[abcN]).getD M.toNat []):=by
  rcases mem_append.mp hm' with z|z
  ·exact hX _ z
  ·have:(X++[abcN]).getD M.toNat []=abcN:=by simpa using z
   rw[this];exact zk2
 refine byc fun zG_=>?_
 obtain⟨q,q1,q2,q3⟩:=GG ns a ((X++[abcN]).getD M.toNat []) m h63 ha0 ha hm0 hm hn.1 (le_trans hn.2.1 (by decide)) hn.2.2
 refine zG_ ?_
 refine⟨q,q1,q2,?_⟩
 have ix:=j8 (X++[abcN]) M.toNat hi
 rw[Int.toNat_of_nonneg dl.1] at ix
 unfold qE
 exact zj4 (zq rfl) rfl (op2 (op2 (zq rfl) (Mu rfl) (LQ X hl)) (u3 (zq rfl) rfl (op2 (uN (zq rfl) vc) rfl (by rw[length_map];exact xg)) dk) ix) rfl q3
theorem Uf(X:List (List Nat))(q:List Nat):∀is:List Nat,((W4 X q is).map (·.2)).Sublist is:=by
 intro l_
 induction l_ with
 |nil=>
  exact List.Sublist.refl _
 |cons i is ih_=>
  have ih:=ih_
  unfold W4 at ih ⊢
  rw[List.flatMap_cons,map_append]
  unfold fr1 at ih ⊢
  cases z:Wr q (X.getD i []) with
  |none=>simp;exact List.Sublist.cons _ (by simpa using ih)
  |some t=>simp;exact(by simpa using ih)
theorem Jr(n:Nat):((List.range n).map fun (k:Nat)=>D.int (0+k))=(List.range n).map fun (i:Nat)=>D.int i:=List.map_congr_left fun k _=>by rw[Int.zero_add]
theorem JF(rs:List Rw):neD (.lst (rs.map xk)) (.lst (rs.map xk))=.ok (.bl false):=by
 obtain⟨a,b,c⟩:=Wk rs
 have ok:okD (.lst (rs.map xk))=true:=by
  simp[okD,wa,xX,PyData.canLay0,PyData.depth,a,b]
  lia
 have ev:wW (.lst (rs.map xk)) (.lst (rs.map xk))=true:=by
  simp[wW,xX,PyData.eqv,V7]
 unfold neD
 simp only[ok,and_self,if_true,ev,Bool.not_true]
theorem zY{f g:FS}{τ τ':DS}(h:f τ=.nx τ'):zC f g τ=g τ':=by rw[zR,h,yj]
theorem if_f{g:FT}{a b:FS}{τ:DS}(h:g τ=.ok false):sIf g a b τ=b τ:=by rw[yD,h,Fl.of_ok,if_neg (by simp)]
theorem zi5{g:FT}{a b:FS}{τ:DS}(h:g τ=.ok true):sIf g a b τ=a τ:=by rw[yD,h,Fl.of_ok,if_pos rfl]
theorem W2{g:FT}{a:FS}{τ:DS}(h:g τ=.ok false):sIf g a yd τ=.nx τ:=if_f h
theorem uR{i:Nat}{fe:FE}{τ:DS}{d:D}(h:fe τ=.ok d):yR i fe τ=.nx (τ.set i (some (.val d))):=by rw[ya,h,Fl.of_ok]
theorem ZA{fe:FE}{τ:DS}{d:D}(h:fe τ=.ok d):xz fe τ=.rt d:=by rw[yf,h,Fl.of_ok]
theorem WD{fe:FE}{τ:DS}{d:D}(h:fe τ=.ok d):jU fe τ=.ro d τ:=by unfold jU;rw[h,Fl.of_ok]
theorem uM{τ:DS}{i n:Nat}{c:Str}{fs:Fs}(h:τ[i]?=some (some (.obj n c fs))):vT τ i c=.ok fs:=by unfold vT;rw[h];exact if_pos rfl
theorem UK{τ:DS}{i:Nat}{c:Str}{fs:Fs}(h:τ[i]?=some (some (.obr c fs))):vT τ i c=.ok fs:=by unfold vT;rw[h];exact if_pos rfl
theorem UI{τ:DS}{i n:Nat}{c:Str}{fs:Fs}(h:τ[i]?=some (some (.obj n c fs))):uL τ i c=.ok (n,fs):=by unfold uL;rw[h];exact if_pos rfl
theorem jw{τ:DS}{i:Nat}{c f:Str}{fs:Fs}{d:D}(h:vT τ i c=.ok fs)(hf:xP f fs=some d):eAt i c f τ=.ok d:=by unfold eAt;rw[h,Rs.bind_ok,hf]
theorem G8{τ:DS}{i:Nat}{c f:Str}{fs:Fs}{ds:List D}(h:vT τ i c=.ok fs)(hf:xP f fs=some (.lst ds)):VH τ i c f=.ok ds:=by unfold VH;rw[h,Rs.bind_ok,hf]
theorem zf6{τ:DS}{i n:Nat}{c f:Str}{fs:Fs}{ds:List D}(h:τ[i]?=some (some (.obj n c fs)))(hf:xP f fs=some (.lst ds)):omO τ i c f=.ok (n,fs,ds):=by unfold omO;rw[UI h,Rs.bind_ok];show(match xP f fs with|some (.lst ds)=>Rs.ok (n,fs,ds) | _=>.no)=_;rw[hf]
theorem len_A{τ:DS}{i:Nat}{c f:Str}{ds:List D}(h:VH τ i c f=.ok ds):Ua i c f τ=.ok (.int ds.length):=by unfold Ua;rw[h];rfl
theorem ix_A{τ:DS}{i:Nat}{c f:Str}{ds:List D}{fi:FE}{k:Int}{d:D}(h:VH τ i c f=.ok ds)(hi:fi τ=.ok (.int k))(hd:atI ds k=some d):U3 i c f fi τ=.ok d:=by unfold U3;rw[h,Rs.bind_ok,hi,Rs.bind_ok];show(match atI ds k with|some d=>Rs.ok d|none=>.no)=_;rw[hd]
theorem Wz{τ:DS}{i n:Nat}{c f:Str}{fs:Fs}{d:D}{fe:FE}(he:fe τ=.ok d)(h:τ[i]?=some (some (.obj n c fs)))(hl:fs.length<1000):sAt i c f fe τ=.nx (τ.set i (some (.obj n c (xA f d fs)))):=by
 unfold sAt;rw[he,Fl.of_ok,UI h,Fl.of_ok];exact if_pos hl
theorem Tz{τ:DS}{i n:Nat}{c f:Str}{fs:Fs}{ds:List D}{ff:FA}(he:ff τ=.ok ds)(h:τ[i]?=some (some (.obj n c fs)))(hl:fs.length<1000):TC i c f ff τ=.nx (τ.set i (some (.obj n c (xA f (.lst ds) fs)))):=by
 unfold TC;rw[he,Fl.of_ok,UI h,Fl.of_ok];exact if_pos hl
theorem LY{τ:DS}{i n:Nat}{c f:Str}{fs:Fs}{ds:List D}{d:D}{fe:FE}(h:τ[i]?=some (some (.obj n c fs)))(hf:xP f fs=some (.lst ds))(he:fe τ=.ok d)(hl:ds.length≤1000):Vt i c f fe τ=.nx (τ.set i (some (.obj n c (xA f (.lst (ds++[d])) fs)))):=by
 unfold Vt;rw[zf6 h hf,Fl.of_ok,he,Fl.of_ok];exact if_pos (by rw[zK];show ds.length<_;lia)
theorem xO{τ:DS}{i:Nat}{c m:Str}{g:Fs→List D→Rs D}{fa:FA}{o:Fs}{ds:List D}{d:D}(h:vT τ i c=.ok o)(hm:xP m o=none)(ha:fa τ=.ok ds)(hg:g o ds=.ok d):yz i c m g fa τ=.ok d:=by
 unfold yz;rw[h,Rs.bind_ok,hm,if_pos (by rfl),ha,Rs.bind_ok,hg];rfl
theorem vk{τ:DS}{i n:Nat}{c m:Str}{g:Fs→List D→Rs (D×Fs)}{fa:FA}{o o':Fs}{ds:List D}{d:D}(h:τ[i]?=some (some (.obj n c o)))(hm:xP m o=none)(ha:fa τ=.ok ds)(hg:g o ds=.ok (d,o')):xV i c m g fa τ=.ok (d,τ.set i (some (.obj n c o'))):=by
 unfold xV;rw[UI h,Rs.bind_ok];show(if (xP m o).isNone=true then _ else _)=_;rw[hm,if_pos (by rfl),ha,Rs.bind_ok,hg]
theorem ZP{fa:FE}{τ:DS}{a:D}(h:fa τ=.ok a):za fa zi τ=.ok [a]:=by rw[zu,h,Rs.bind_ok,zM,Rs.bind_ok]
theorem vv{fo:FOb}{τ τ':DS}{d:D}(h:fo τ=.ok (d,τ')):x9 fo τ=.nx τ':=by unfold x9;rw[h,Fl.of_ok]
theorem JH{i:Nat}{c:Str}{g:Fs→List D→Rs (D×Fs)}{fa:FA}{τ:DS}{ds:List D}{o:Fs}(ha:fa τ=.ok ds)(hg:g [] ds=.ok (.non,o)):ZS i c g fa τ=.nx (τ.set i (some (.obj 0 c o))):=by
 unfold ZS;rw[ha,Fl.of_ok,hg]
theorem Lk{op:D→D→Rs D}{fo fb:FOb}{τ τ' τ'':DS}{a b r:D}(h1:fo τ=.ok (a,τ'))(h2:fb τ'=.ok (b,τ''))(h3:op a b=.ok r):QL op fo fb τ=.ok (r,τ''):=by
 unfold QL;rw[h1,Rs.bind_ok];show(fb τ').bind _=_;rw[h2,Rs.bind_ok];show(op a b).bind _=_;rw[h3];rfl
theorem oB_ok{fo:FOb}{τ τ':DS}{b:Bool}(h:fo τ=.ok (.bl b,τ')):oB fo τ=.ok (b,τ'):=by unfold oB;rw[h];rfl
theorem T9{g:FT}{τ:DS}{b:Bool}(h:g τ=.ok b):G9 g τ=.ok (b,τ):=by unfold G9;rw[h];rfl
theorem oOr_f{ga gb:Xu}{τ τ' τ'':DS}{b:Bool}(h1:ga τ=.ok (false,τ'))(h2:gb τ'=.ok (b,τ'')):Mg ga gb τ=.ok (b,τ''):=by
 unfold Mg;rw[h1,Rs.bind_ok];show(if false=true then _ else gb τ')=_;rw[if_neg (by simp),h2]
theorem ifO_n{g:Xu}{a:FS}{τ τ':DS}(h:g τ=.ok (false,τ')):GB g a yd τ=.nx τ':=by
 unfold GB;rw[h,Fl.of_ok];show(if false=true then _ else yd τ')=_;rw[if_neg (by simp)];rfl
noncomputable def uZ:FS:=(sIf (uQ (FD.tB (eOp ltI (Zl 2) (yo yB (za (ze 0) zi)))) (vQ (zv xW (za (eOp ixD (ze 0) (Zl 2)) (za (eOp ixD (ze 1) (ze 3)) zi))))) (Xy 2 (ze 3)) yd)
theorem JZ(q x:List Nat)(hq:q.length≤1000)(hx:x.length≤1000)(ha:∀c∈q,c<128):∀(m k:Nat) (b:List Nat) (s:Option Sl),k+m=x.length→b.length≤k →
  ∃s',yS (gNm 3) uZ ((List.range' k m).map fun (k:Nat)=>D.int (0+k)) [some (.val (tx q)),some (.val (tx x)),some (.own (b.map fun (k:Nat)=>D.int k)),s]
   = .nx [some (.val (tx q)),some (.val (tx x)),some (.own ((b++epR (q.drop b.length) (x.drop k) k).map fun (k:Nat)=>D.int k)),s']:=by
 intro l_
 induction l_ with
 |zero=>
  rintro k b s h hb
  have:x.drop k=[]:=List.drop_eq_nil_of_le (by lia)
  rw[this]
  have e:epR (q.drop b.length) [] k=[]:=by cases q.drop b.length <;> rfl
  rw[e,append_nil]
  exact⟨s,rfl⟩
 |succ m ih_=>
  rintro k b s h hb
  have hk:k<x.length:=by lia
  have hxk:=Gm x k x[k] (getElem?_eq_getElem hk) hx
  rw[range'_succ,map_cons,yS,jJ,Fl.of_ok,drop_eq_getElem_cons hk]
  simp only[set_cons_succ,set_cons_zero,Int.zero_add]
  have ih:=fun b' s' h'=>ih_ (k+1) b' s' (by lia) h'
  simp only[Int.zero_add] at ih
  by_cases hl:b.length<q.length
  ·have hqb:=Gm q b.length q[b.length] (getElem?_eq_getElem hl) hq
   have hbz:b.length<sizeLine:=by rw[zK];lia
   have hmt:=Y1 q[b.length] x[k] (ha _ (getElem_mem hl))
   rw[drop_eq_getElem_cons hl]
   by_cases hm:wl q[b.length] x[k]=true
   ·obtain⟨s',e⟩:=ih (b++[k]) (some (.val (.int k))) (by simp;lia)
    refine⟨s',?_⟩
    have:uZ [some (.val (tx q)),some (.val (tx x)),some (.own (b.map fun (k:Nat)=>D.int k)),some (.val (.int k))]=.nx [some (.val (tx q)),some (.val (tx x)),some (.own ((b++[k]).map fun (k:Nat)=>D.int k)),some (.val (.int k))]:=by
     unfold uZ
     simp only[yD,zZ,vG,Zk,xZ,vE,vF,yc,zG,zM,zu,yA,wN,getElem?_cons_zero,getElem?_cons_succ,set_cons_succ,set_cons_zero,zB,xf,Rs.bind_ok,Fl.of_ok,xJ,zW,vD,VN,if_true,length_map,wm q hq,Int.ofNat_lt,hl,decide_true,hqb,hxk,hmt,hm,hbz,map_append,map_cons,map_nil]
    simp only[this]
    rw[e]
    simp only[epR,hm,if_true,append_assoc,List.cons_append,nil_append,length_append,length_cons,length_nil,zero_add]
   ·obtain⟨s',e⟩:=ih b (some (.val (.int k))) (by lia)
    refine⟨s',?_⟩
    have hm':wl q[b.length] x[k]=false:=by simpa using hm
    have:uZ [some (.val (tx q)),some (.val (tx x)),some (.own (b.map fun (k:Nat)=>D.int k)),some (.val (.int k))]=.nx [some (.val (tx q)),some (.val (tx x)),some (.own (b.map fun (k:Nat)=>D.int k)),some (.val (.int k))]:=by
     unfold uZ
     simp only[yD,zZ,vG,Zk,xZ,vE,vF,yc,zG,zM,zu,yA,wN,getElem?_cons_zero,getElem?_cons_succ,set_cons_succ,set_cons_zero,zB,xf,Rs.bind_ok,Fl.of_ok,xJ,zW,vD,VN,if_true,Bool.false_eq_true,if_false,length_map,wm q hq,Int.ofNat_lt,hl,decide_true,hqb,hxk,hmt,hm']
    simp only[this]
    rw[e,drop_eq_getElem_cons hl]
    simp only[epR,hm',Bool.false_eq_true,if_false]
  ·obtain⟨s',e⟩:=ih b (some (.val (.int k))) (by lia)
   refine⟨s',?_⟩
   have:uZ [some (.val (tx q)),some (.val (tx x)),some (.own (b.map fun (k:Nat)=>D.int k)),some (.val (.int k))]=.nx [some (.val (tx q)),some (.val (tx x)),some (.own (b.map fun (k:Nat)=>D.int k)),some (.val (.int k))]:=by
    unfold uZ
    simp only[yD,zZ,vG,Zk,xZ,vE,vF,yc,zG,zM,zu,yA,wN,getElem?_cons_zero,getElem?_cons_succ,set_cons_succ,set_cons_zero,zB,xf,Rs.bind_ok,Fl.of_ok,zW,VN,Bool.false_eq_true,if_false,length_map,wm q hq,Int.ofNat_lt,hl,decide_false]
   simp only[this]
   rw[e,List.drop_eq_nil_of_le (by lia:q.length≤b.length)]
   simp only[epR]
theorem ep_ok(q x:List Nat)(hq:q.length≤1000)(hx:x.length≤1000)(ha:∀c∈q,c<128):yN [tx q,tx x]=.ok (nts (epR q x 0)):=by
 have st:zX 4 [tx q,tx x]=[some (.val (tx q)),some (.val (tx x)),none,none]:=rfl
 obtain⟨s',e⟩:=JZ q x hq hx ha x.length 0 [] none (by lia) (le_refl _)
 unfold uZ at e
 have r1:=WC (fs:=za (yo yB (za (ze 1) zi)) zi) (τ:=[some (.val (tx q)),some (.val (tx x)),some (.own []),none]) (j:=x.length) (by simp only[zG,zM,zu,wN,getElem?_cons_zero,getElem?_cons_succ,zB,Rs.bind_ok,wm x hx]) (by lia) (by lia)
 unfold yN vN
 rw[yw,st]
 simp only[zR,w6,vg,zM,set_cons_succ,set_cons_zero,Rs.bind_ok,Fl.of_ok,yj,if_true,length_nil,zero_le,r1,uK,Int.toNat_natCast]
 rw[range_eq_range']
 rw[show([]:List D)=([]:List Nat).map fun (k:Nat)=>D.int k from rfl,e]
 simp only[va,vb,getElem?_cons_zero,getElem?_cons_succ,xf,Fl.of_ok,yj,zU,nil_append,length_nil,drop_zero]
theorem JX(q x:List Nat)(hq:q.length≤1000)(hx:x.length≤1000)(ha:∀c∈q,c<128):wU [tx q,tx x]=.ok (.bl (xv q x)):=by
 have st:zX 2 [tx q,tx x]=[some (.val (tx q)),some (.val (tx x))]:=rfl
 unfold wU Tb
 rw[yw,st]
 simp only[yf,yc,zG,zM,zu,yA,wN,getElem?_cons_zero,getElem?_cons_succ,zB,Rs.bind_ok,Fl.of_ok,zU,xJ,vw,vc,ep_ok q x hq hx ha,wm q hq,length_map]
 congr 2
 rw[Bool.eq_iff_iff,← Xj q x 0,beq_iff_eq]
 lia
theorem jj:∀(l:List Nat),plainDs (l.map fun (k:Nat)=>D.int k)=true∧PyData.canLayAll0 (toPys (l.map fun (k:Nat)=>D.int k))=true∧PyData.depthAll (toPys (l.map fun (k:Nat)=>D.int k))=0∧PyData.eqvAll (toPys (l.map fun (k:Nat)=>D.int k)) (toPys (l.map fun (k:Nat)=>D.int k))=true:=by
 intro l_
 induction l_ with
 |nil=>
  exact⟨rfl,rfl,rfl,by simp[toPys,PyData.eqvAll]⟩
 |cons a r ih_=>
  refine byc fun zG_=>?_
  obtain⟨h1,h2,h3,h4⟩:=ih_
  refine zG_ ?_
  exact⟨by simp[plainDs,wa,h1],by simp[toPys,xX,PyData.canLayAll0,PyData.canLay0,h2],by simp[toPys,xX,PyData.depthAll,PyData.depth,h3],by simp[toPys,xX,PyData.eqvAll,PyData.eqv,h4]⟩
theorem UL(l:List Nat):okD (nts l)=true:=by
 refine byc fun zG_=>?_
 obtain⟨a,b,c,_⟩:=jj l
 refine zG_ ?_
 simp[okD,wa,xX,PyData.canLay0,PyData.depth,a,b,c]
theorem zf8(l:List Nat):neD (nts l) (nts l)=.ok (.bl false):=by
 refine byc fun zG_=>?_
 obtain⟨_,_,_,d⟩:=jj l
 refine zG_ ?_
 have ok:=UL l
 unfold nts at ok ⊢
 simp only[neD,ok,and_self,if_true,wW,xX,PyData.eqv,d,Bool.not_true]
theorem zg0(l:List Nat):eqD (nts l) (nts l)=.ok (.bl true):=by
 refine byc fun zG_=>?_
 obtain⟨_,_,_,d⟩:=jj l
 refine zG_ ?_
 have ok:=UL l
 unfold nts at ok ⊢
 simp only[eqD,ok,and_self,if_true,wW,xX,PyData.eqv,d]
theorem Li(i:Int):okD (.int i)=true:=by simp[okD,wa,xX,PyData.canLay0,PyData.depth]
theorem QM(k:Nat)(L:List Nat):YY (.int (k:Int)) (nts L)=.ok (.bl (!L.contains k)):=by
 unfold YY
 have:inD (.int (k:Int)) (nts L)=.ok (.bl (L.contains k)):=by
  show(if okD (.int (k:Int))=true∧okD (nts L)=true then Rs.ok (D.bl ((L.map fun (k:Nat)=>D.int k).any fun y=>wW y (.int (k:Int)))) else Rs.no)=_
  rw[if_pos ⟨Li _,UL L⟩,List.any_map]
  refine congrArg Rs.ok (congrArg D.bl ?_)
  rw[Bool.eq_iff_iff,List.any_eq_true,List.contains_iff_mem]
  constructor
  ·rintro⟨r,hr,e⟩
   have:((r:Nat):Int)=k:=by
    have e:PyData.eqv (PyData.int _) (PyData.int _)=true:=e
    simpa[PyData.eqv] using e
   have:r=k:=by lia
   rw[← this];exact hr
  ·intro h
   refine⟨k,h,?_⟩
   show PyData.eqv (PyData.int _) (PyData.int _)=true
   simp[PyData.eqv]
 rw[this];rfl
theorem ns_lt:∀c∈NS,c<128:=by decide +kernel
theorem Jt:∀c∈QS,c<128:=by decide +kernel
theorem Vo(x:List Nat):xv [] x=true:=by simp[xv]
theorem Vn(q r:List Nat)(x:List Nat)(h:xv (q++r) x=true):xv q x=true:=by
 induction x generalizing q with
 |nil=>
  cases q with
  |nil=>simp[xv]
  |cons a q=>simp[xv] at h
 |cons c x ih=>
  cases q with
  |nil=>simp[xv]
  |cons a q=>
   simp only[List.cons_append,xv] at h ⊢
   split
   ·rename_i hm
    rw[if_pos hm] at h
    exact ih q h
   ·rename_i hm
    rw[if_neg hm] at h
    exact ih (a::q) (by simpa using h)
theorem Ql{q x:List Nat}(i:Nat)(h:xv q x=true):xv (q.take i) x=true:=Vn (q.take i) (q.drop i) x (by rw[List.take_append_drop];exact h)
noncomputable def xh(X:List (List Nat))(q:List Nat):List Nat:=(List.range X.length).filter fun k=>xv q (X.getD k [])
noncomputable def LV(X:List (List Nat))(q:List Nat):List (List Nat):=(List.range (q.length+1)).map fun i=>xh X (q.take i)
theorem zl0(X:List (List Nat))(q:List Nat):(LV X q).length=q.length+1:=by unfold LV;simp
theorem V6(X:List (List Nat)):xh X []=List.range X.length:=by
 unfold xh
 exact List.filter_eq_self.mpr fun k _=>Vo _
theorem zk9(X:List (List Nat)):LV X []=[List.range X.length]:=by
 unfold LV
 rw[← V6 X];rfl
noncomputable def LVp(X:List (List Nat))(q:List Nat):List (List Nat):=(List.range q.length).map fun i=>xh X (q.take i)
theorem Zu(X:List (List Nat))(q:List Nat):LV X q=LVp X q++[xh X q]:=by
 unfold LV LVp
 rw[range_succ,map_append,List.map_singleton,List.take_length]
theorem Ti(X:List (List Nat))(q:List Nat)(c:Nat):LVp X (q++[c])=LV X q:=by
 unfold LV LVp
 rw[length_append,length_singleton]
 refine List.map_congr_left fun i hi=>?_
 rw[List.take_append_of_le_length (by have:=mem_range.mp hi;lia)]
theorem Qc(X:List (List Nat))(q:List Nat)(c:Nat):LV X (q++[c])=LV X q++[xh X (q++[c])]:=by rw[Zu,Ti]
theorem Q9(X:List (List Nat))(q:List Nat)(c:Nat):xh X (q++[c])=(xh X q).filter fun k=>xv (q++[c]) (X.getD k []):=by
 unfold xh
 rw[List.filter_filter]
 refine List.filter_congr fun k _=>?_
 cases z:xv (q++[c]) (X.getD k []) with
 |false=>rfl
 |true=>rw[Vn q [c] _ z];rfl
theorem MY(X:List (List Nat))(x q:List Nat):xh (X++[x]) q=xh X q++if xv q x=true then [X.length] else []:=by
 unfold xh
 rw[length_append,length_singleton,range_succ,List.filter_append]
 congr 1
 ·refine List.filter_congr fun k hk=>?_
  have:=mem_range.mp hk
  simp[getD_eq_getElem?_getD,getElem?_append_left this]
 ·have e:(X++[x]).getD X.length []=x:=by simp
  rw[filter_cons,e,List.filter_nil]
theorem W5{X:List (List Nat)}{q:List Nat}{k:Nat}(h:k∈xh X q):k<X.length:=mem_range.mp (mem_filter.mp h).1
theorem ux(X:List (List Nat))(q:List Nat):(xh X q).length≤X.length:=by
 unfold xh
 have:=length_filter_le (fun k=>xv q (X.getD k [])) (List.range X.length)
 simpa using this
theorem JY(X:List (List Nat))(q:List Nat):(xh X q).Nodup:=List.Pairwise.filter _ List.nodup_range
noncomputable abbrev ntl(l:List Nat):List D:=l.map fun (k:Nat)=>D.int k
noncomputable abbrev lvD(L:List (List Nat)):D:=.lst ((L.map ntl).map D.lst)
noncomputable def SK(X:List (List Nat))(q:List Nat)(L:List (List Nat))(n:Int):Fs:=[("names", .lst (X.map tx)),("query", tx q),("levels", lvD L),("looks", .int n)]
theorem L4{X:List (List Nat)}{q:List Nat}{L:List (List Nat)}{n:Int}:xP "names" (SK X q L n)=some (.lst (X.map tx)):=rfl
theorem Vg{X:List (List Nat)}{q:List Nat}{L:List (List Nat)}{n:Int}:xP "query" (SK X q L n)=some (tx q):=rfl
theorem Xt{X:List (List Nat)}{q:List Nat}{L:List (List Nat)}{n:Int}:xP "levels" (SK X q L n)=some (lvD L):=rfl
theorem zk5{X:List (List Nat)}{q:List Nat}{L:List (List Nat)}{n:Int}:xP "looks" (SK X q L n)=some (.int n):=rfl
theorem SK_pn{X X':List (List Nat)}{q:List Nat}{L:List (List Nat)}{n:Int}:xA "names" (.lst (X'.map tx)) (SK X q L n)=SK X' q L n:=rfl
theorem zb5{X:List (List Nat)}{q q':List Nat}{L:List (List Nat)}{n:Int}:xA "query" (tx q') (SK X q L n)=SK X q' L n:=rfl
theorem Ug{X:List (List Nat)}{q:List Nat}{L L':List (List Nat)}{n:Int}:xA "levels" (lvD L') (SK X q L n)=SK X q L' n:=rfl
theorem zb6{X:List (List Nat)}{q:List Nat}{L:List (List Nat)}{n n':Int}:xA "looks" (.int n') (SK X q L n)=SK X q L n':=rfl
theorem Tc(P:List (List D))(l:List D):at2 (P++[l]) (-1)=some (P.length,l):=by
 have e:ixN (P++[l]).length (-1)=some P.length:=by
  unfold ixN
  rw[length_append,length_singleton,if_neg (by lia),if_pos (by lia)]
  congr 1;lia
 unfold at2
 rw[e]
 show((P++[l])[P.length]?).map _=_
 rw[List.getElem?_concat_length];rfl
theorem J6{es:List (List D)}{j:Nat}{ds:List D}(h:es[j]?=some ds):at2 es (j:Int)=some (j,ds):=by
 have hj:=(List.getElem?_eq_some_iff.mp h).1
 have e:ixN es.length (j:Int)=some j:=by
  unfold ixN
  rw[if_pos (by lia),if_pos (by lia)];simp
 unfold at2
 rw[e]
 show(es[j]?).map _=_
 rw[h];rfl
theorem X7{τ:DS}{i:Nat}{c f:Str}{fs:Fs}{es:List (List D)}(h:vT τ i c=.ok fs)(hf:xP f fs=some (.lst (es.map D.lst))):XH τ i c f=.ok es:=by
 unfold XH
 rw[h,Rs.bind_ok,hf]
 simp only[vq]
theorem JJ{τ:DS}{i n:Nat}{c f:Str}{fs:Fs}{es:List (List D)}(h:τ[i]?=some (some (.obj n c fs)))(hf:xP f fs=some (.lst (es.map D.lst))):UR τ i c f=.ok (n,fs,es):=by
 unfold UR
 rw[UI h,Rs.bind_ok]
 simp only[hf,vq]
theorem Wc{τ:DS}:xQ (eC (.int 1)) τ=.ok (.int (-1)):=rfl
theorem JO{τ:DS}{i:Nat}{c f:Str}{es:List (List D)}{fi:FE}{k:Int}{p:Nat×List D}(h:XH τ i c f=.ok es)(hi:fi τ=.ok (.int k))(ha:at2 es k=some p):Wl i c f fi τ=.ok (.int p.2.length):=by
 unfold Wl
 rw[h,Rs.bind_ok,hi,Rs.bind_ok]
 simp only[ha]
theorem Mx{τ:DS}{i:Nat}{c f:Str}{es:List (List D)}{fi:FE}{k:Int}{p:Nat×List D}(h:XH τ i c f=.ok es)(hi:fi τ=.ok (.int k))(ha:at2 es k=some p):W6 i c f fi τ=.ok p.2:=by
 unfold W6
 rw[h,Rs.bind_ok,hi,Rs.bind_ok]
 simp only[ha]
theorem MJ{τ:DS}{i:Nat}{c f:Str}{es:List (List D)}{fi:FE}{k:Int}{p:Nat×List D}(h:XH τ i c f=.ok es)(hi:fi τ=.ok (.int k))(ha:at2 es k=some p):Ub i c f fi τ=.ok (.lst p.2):=by
 unfold Ub
 rw[h,Rs.bind_ok,hi,Rs.bind_ok]
 simp only[ha]
theorem J7{τ:DS}{i n:Nat}{c f:Str}{fs:Fs}{es:List (List D)}{fi fe:FE}{j:Nat}{ds:List D}{d:D}(h:τ[i]?=some (some (.obj n c fs)))(hf:xP f fs=some (.lst (es.map D.lst)))(hi:fi τ=.ok (.int ((j:Nat):Int)))(hj:es[j]?=some ds)(he:fe τ=.ok d)(hl:ds.length≤1000) :
  YD i c f fi fe τ=.nx (τ.set i (some (.obj n c (xA f (.lst ((es.set j (ds++[d])).map D.lst)) fs)))):=by
 unfold YD
 rw[JJ h hf,Fl.of_ok,hi,Fl.of_ok]
 unfold app2
 simp only[J6 hj]
 rw[he,Fl.of_ok]
 exact if_pos (by rw[zK];show ds.length<_;lia)
theorem zj7{τ:DS}{i n:Nat}{c f:Str}{fs:Fs}{fe:FE}{a b:Int}(h:τ[i]?=some (some (.obj n c fs)))(hf:xP f fs=some (.int a))(he:fe τ=.ok (.int b))(hl:fs.length<1000):X2 i c f fe τ=.nx (τ.set i (some (.obj n c (xA f (.int (a+b)) fs)))):=by
 unfold X2
 rw[UI h,Fl.of_ok]
 simp only[hf]
 rw[he,Fl.of_ok]
 exact if_pos hl
theorem Lm{τ:DS}{i n:Nat}{c f:Str}{fs:Fs}{ff:FA}{ds:List D}(he:ff τ=.ok ds)(h:τ[i]?=some (some (.obj n c fs)))(hl:fs.length<1000):Jn i c f ff τ=.nx (τ.set i (some (.obj n c (xA f (.lst [.lst ds]) fs)))):=by
 unfold Jn
 rw[he,Fl.of_ok,UI h,Fl.of_ok]
 exact if_pos hl
theorem TQ{τ:DS}{i n:Nat}{c f:Str}{fs:Fs}{es:List (List D)}(h:τ[i]?=some (some (.obj n c fs)))(hf:xP f fs=some (.lst (es.map D.lst)))(hn:es≠[]):Jm i c f τ=.nx (τ.set i (some (.obj n c (xA f (.lst (es.dropLast.map D.lst)) fs)))):=by
 unfold Jm
 rw[JJ h hf,Fl.of_ok]
 exact if_neg hn
theorem J0:("" : Str)=⟨([]:List Nat).toArray⟩:=by decide +kernel
theorem MG(X:List (List Nat))(hl:X.length≤1000):z8 [] [.lst (X.map tx)]=.ok (.non,SK X [] [List.range X.length] 0):=by
 have st:wA (.obj 1 "Seeker" []) 0 2 [.lst (X.map tx)]=[some (.obj 1 "Seeker" []),some (.val (.lst (X.map tx)))]:=rfl
 have h1:zg9 (ze 1) [some (.obj 1 "Seeker" []),some (.val (.lst (X.map tx)))]=.ok (X.map tx):=rfl
 have h3:VO (vB (za (yo yB (za (ze 1) zi)) zi)) [some (.obj 1 "Seeker" [("names", .lst (X.map tx)),("query", tx [])]),some (.val (.lst (X.map tx)))]=.ok (ntl (List.range X.length)):=by
  refine zg8 ?_ (by simp;lia)
  rw[YG (n:=X.length) (uN (zq rfl) (by rw[vc,length_map])) hl,Jr]
 unfold z8 jW vO
 rw[st,zY (Tz (fs:=[]) h1 rfl (by decide))]
 show flM 0 "Seeker" (zC _ _ [some (.obj 1 "Seeker" [("names", .lst (X.map tx))]),some (.val (.lst (X.map tx)))])=_
 rw[zY (Wz (d:=tx []) (by rw[yG,J0]) rfl (by show 1<1000;decide))]
 show flM 0 "Seeker" (zC _ _ [some (.obj 1 "Seeker" [("names", .lst (X.map tx)),("query", tx [])]),some (.val (.lst (X.map tx)))])=_
 rw[zY (Lm h3 rfl (by show 2<1000;decide))]
 show flM 0 "Seeker" (sAt _ _ _ _ [some (.obj 1 "Seeker" [("names", .lst (X.map tx)),("query", tx []),("levels", .lst [.lst (ntl (List.range X.length))])]),some (.val (.lst (X.map tx)))])=_
 rw[Wz (d:=.int 0) rfl rfl (by show 3<1000;decide)]
 rfl
theorem jP(X:List (List Nat))(q:List Nat)(L:List (List Nat))(n:Int):yk (SK X q L n) []=.ok (tx q):=by
 have st:wA (.obr "Seeker" (SK X q L n)) 0 1 []=[some (.obr "Seeker" (SK X q L n))]:=rfl
 unfold yk YF u7
 rw[st,ZA (jw (UK rfl) Vg)]
 rfl
theorem QV(X:List (List Nat))(q:List Nat)(L:List (List Nat))(n:Int):yC (SK X q L n) []=.ok (.int n):=by
 have st:wA (.obr "Seeker" (SK X q L n)) 0 1 []=[some (.obr "Seeker" (SK X q L n))]:=rfl
 unfold yC YF uI
 rw[st,ZA (jw (UK rfl) zk5)]
 rfl
theorem Za(P:List (List Nat))(l:List Nat):at2 ((P++[l]).map ntl) (-1)=some (P.length,ntl l):=by
 rw[map_append,List.map_singleton,Tc,length_map]
theorem Xg(X:List (List Nat))(q:List Nat)(P:List (List Nat))(l:List Nat)(n:Int):zN (SK X q (P++[l]) n) []=.ok (nts l):=by
 have st:wA (.obr "Seeker" (SK X q (P++[l]) n)) 0 1 []=[some (.obr "Seeker" (SK X q (P++[l]) n))]:=rfl
 have e:=Mx (i:=0) (c := "Seeker") (f := "levels") (fi:=xQ (eC (.int 1))) (τ:=[some (.obr "Seeker" (SK X q (P++[l]) n))]) (X7 (UK rfl) Xt) Wc (Za P l)
 unfold zN YF ud
 rw[st,ZA (d:=nts l) (by simp only[e,Rs.bind_ok])]
 rfl
theorem LK(X:List (List Nat))(q l:List Nat)(hX:∀x∈X,x.length≤1000)(nd:l.Nodup)(hl:l.length<64)(lt:∀k∈l,k<X.length):zk6 X (W4 X q l):=by
 have s:=Uf X q l
 refine⟨?_,s.nodup nd,fun r hr=>?_,hX⟩
 ·have:=s.length_le
  rw[length_map] at this
  lia
 ·exact lt _ (s.mem (mem_map.mpr ⟨r,hr,rfl⟩))
theorem X9:∀rs:List Rw,noLs (rs.map xk)=true:=by
 intro l_
 induction l_ with
 |nil=>
  simp[noLs]
 |cons r rs ih_=>
  rw[map_cons,noLs,ih_]
  simp[xk,noL,noLs]
noncomputable def Mh(X:List (List Nat))(q l:List Nat)(many:Nat):List Rw:=(ZR (WZ X) (W4 X q l)).take many
theorem UM(X:List (List Nat))(q:List Nat)(P:List (List Nat))(l:List Nat)(n:Int)(many:Nat)(hq:q.length≤1000)(hX:∀x∈X,x.length≤1000)(ha:∀c∈q,c<128)(nd:l.Nodup)(hl:l.length<64)(lt:∀k∈l,k<X.length) :
  z7 (SK X q (P++[l]) n) [.int (many:Int)]=.ok (.lst ((Mh X q l many).map xk)):=by
 have st:wA (.obr "Seeker" (SK X q (P++[l]) n)) 0 2 [.int (many:Int)]=[some (.obr "Seeker" (SK X q (P++[l]) n)),some (.val (.int (many:Int)))]:=rfl
 have ho:vT [some (.obr "Seeker" (SK X q (P++[l]) n)),some (.val (.int (many:Int)))] 0 "Seeker" = .ok (SK X q (P++[l]) n):=UK rfl
 have o1:V9 0 "Seeker" "names" [some (.obr "Seeker" (SK X q (P++[l]) n)),some (.val (.int (many:Int)))]=.ok (.lst (X.map tx)):=by
  unfold V9
  rw[G8 ho L4];rfl
 have o2:zv yI (za (V9 0 "Seeker" "names") (za (eAt 0 "Seeker" "query") (za (Ub 0 "Seeker" "levels" (xQ (eC (.int 1)))) zi))) [some (.obr "Seeker" (SK X q (P++[l]) n)),some (.val (.int (many:Int)))]=.ok (.lst ((W4 X q l).map xk)):=
  u3 o1 (jw ho Vg) (MJ (X7 ho Xt) Wc (Za P l)) (LJ X q l hq hX ha lt (by lia))
 have e:W7 0 "Seeker" yW (za (V9 0 "Seeker" "names") (za (zv yI (za (V9 0 "Seeker" "names") (za (eAt 0 "Seeker" "query") (za (Ub 0 "Seeker" "levels" (xQ (eC (.int 1)))) zi)))) (za (ze 1) zi))) [some (.obr "Seeker" (SK X q (P++[l]) n)),some (.val (.int (many:Int)))]=.ok ((Mh X q l many).map xk):=by
  unfold W7
  rw[ho,Rs.bind_ok,zu,o1,Rs.bind_ok,zu,o2,Rs.bind_ok,ZP (zq rfl),Rs.bind_ok,Rs.bind_ok,Rs.bind_ok]
  simp only[Ga X _ many (LK X q l hX nd hl lt)]
  exact if_pos (X9 _)
 unfold z7 YF Zq
 rw[st,ZA (d:=.lst ((Mh X q l many).map xk)) (by simp only[e,Rs.bind_ok])]
 rfl
theorem TH:∀c∈QS,(97≤c∧c≤122)∨(65≤c∧c≤90)∨(48≤c∧c≤57):=by decide
theorem Tv(c:Nat)(h:c∈QS):yQ [zE c]=.ok (.bl true):=by
 have st:zX 1 [zE c]=[some (.val (zE c))]:=rfl
 unfold yQ uG
 rw[yw,st]
 simp only[yf,U1,yc,zG,yG,getElem?_cons_zero,zB,Rs.bind_ok,zE,vD,Z1,wD,vZ,ub,Zh]
 rcases TH c h with z|z|z
 ·simp[z]
 ·by_cases y:97≤c∧c≤122
  ·simp[y]
  ·simp[y,z]
 ·have y1:¬ (97≤c∧c≤122):=by lia
  have y2:¬ (65≤c∧c≤90):=by lia
  simp[y1,y2,z]
theorem QZ(X:List (List Nat))(q:List Nat)(P:List (List Nat))(l:List Nat)(n:Int)(c:Nat)(hX:∀x∈X,x.length≤1000)(hq:q.length<8)(ha:∀c∈q,c∈QS)(hc:c∈QS)(lt:∀k∈l,k<X.length)(hl:l.length≤1000)(hP:P.length≤1000) :
  yn (SK X q (P++[l]) n) [zE c]=.ok (.int (((l.filter fun k=>xv (q++[c]) (X.getD k [])).length:Nat):Int),SK X (q++[c]) ((P++[l])++[l.filter fun k=>xv (q++[c]) (X.getD k [])]) (n+(l.length:Int))):=by
 have st:wA (.obj 1 "Seeker" (SK X q (P++[l]) n)) 0 3 [zE c]=[some (.obj 1 "Seeker" (SK X q (P++[l]) n)),some (.val (zE c)),none]:=rfl
 have t1:Z9 (FD.tB (eOp neD (yo yB (za (ze 1) zi)) (eC (.int 1)))) (uP (vQ (zv yQ (za (ze 1) zi)))) [some (.obj 1 "Seeker" (SK X q (P++[l]) n)),some (.val (zE c)),none]=.ok false:=
  Mb (xY (op2 (uN (zq rfl) (wm [c] (by simp))) rfl rfl)) (L6 (tru_ok (M7 (zq rfl) (Tv c hc))))
 have t2:FD.tB (eOp geD (yo yB (za (eAt 0 "Seeker" "query") zi)) (eC (.int 8))) [some (.obj 1 "Seeker" (SK X q (P++[l]) n)),some (.val (zE c)),none]=.ok false:=
  xY (op2 (uN (jw (uM rfl) Vg) (wm q (by lia))) rfl (by rw[geD_i,decide_eq_false (by lia)]))
 have h3:eOp zO (eAt 0 "Seeker" "query") (ze 1) [some (.obj 1 "Seeker" (SK X q (P++[l]) n)),some (.val (zE c)),none]=.ok (tx (q++[c])):=
  op2 (jw (uM rfl) Vg) (zq rfl) (zj8 q [c] (by lia) (by simp))
 have sa:∀d∈q++[c],d<128:=fun d hd=>by
  rcases mem_append.mp hd with z|z
  ·exact Jt d (ha d z)
  ·obtain rfl:d=c:=by simpa using z
   exact Jt d hc
 generalize hg:l.filter (fun k=>xv (q++[c]) (X.getD k []))=g
 have hgl:g.length≤1000:=by
  have:=length_filter_le (fun k=>xv (q++[c]) (X.getD k [])) l
  rw[hg] at this;lia
 have cf:=wH (set:=gNm 0) (ft:=vQ (zv wU (za (eAt 1 "Seeker" "query") (za (U3 1 "Seeker" "names" (ze 0)) zi)))) (fe:=ze 0) (τ:=[none,some (.obr "Seeker" (SK X (q++[c]) (P++[l]) (n+(l.length:Int))))]) (fun (k:Nat)=>D.int k) (fun (k:Nat)=>D.int k) (fun k=>xv (q++[c]) (X.getD k [])) l fun k hk=>by
  have hk:=lt k hk
  refine⟨[some (.val (.int (k:Int))),some (.obr "Seeker" (SK X (q++[c]) (P++[l]) (n+(l.length:Int))))],rfl,?_,rfl⟩
  refine tru_ok (Z5 (jw (UK rfl) Vg) (ix_A (G8 (UK rfl) L4) (zq rfl) (d:=tx (X.getD k [])) (Vc ?_)) (JX _ _ (by simp;lia) (hX _ (getD_mem hk)) sa))
  rw[getElem?_map,getElem?_eq_getElem hk]
  simp[hk]
 rw[hg] at cf
 have la:Wg 0 "Seeker" "levels" [some (.obr "Seeker" (SK X (q++[c]) (P++[l]) (n+(l.length:Int)))),some (.val (zE c)),none]=.ok (ntl l):=by
  unfold Wg
  rw[X7 (es:=(P++[l]).map ntl) (UK rfl) Xt,Rs.bind_ok,length_map,length_append,length_singleton,Nat.add_sub_cancel,getElem?_map,List.getElem?_concat_length]
  rfl
 have ec:=uz (k:=1) (idx:=[0]) (τ:=[some (.obr "Seeker" (SK X (q++[c]) (P++[l]) (n+(l.length:Int)))),some (.val (zE c)),none]) la cf (by rw[length_map];exact hgl)
 have hlt:jV 0 2 "Seeker" "levels" "looks" (xQ (eC (.int 1))) (fun τ=>(wG 1 [0] (Wg 0 "Seeker" "levels") (gNm 0) (vQ (zv wU (za (eAt 1 "Seeker" "query") (za (U3 1 "Seeker" "names" (ze 0)) zi)))) (ze 0)) (QK 0 τ)) (jU (Wl 0 "Seeker" "levels" (xQ (eC (.int 1))))) [some (.obj 1 "Seeker" (SK X (q++[c]) (P++[l]) n)),some (.val (zE c)),none]
   = .ro (.int (g.length:Nat)) [some (.obj 1 "Seeker" (SK X (q++[c]) ((P++[l])++[g]) (n+(l.length:Int)))),some (.val (zE c)),none]:=by
  unfold jV
  rw[JJ (es:=(P++[l]).map ntl) (n:=1) rfl Xt,Fl.of_ok,Wc,Fl.of_ok]
  unfold zh1
  simp only[Za]
  rw[if_pos (by simp)]
  unfold zh0
  simp only[zk5,length_map]
  rw[if_pos ⟨by show 4<1000;decide,by rw[zK];simp;lia,by show 2<3;decide⟩]
  show Fl.of ((wG 1 [0] (Wg 0 "Seeker" "levels") (gNm 0) (vQ (zv wU (za (eAt 1 "Seeker" "query") (za (U3 1 "Seeker" "names" (ze 0)) zi)))) (ze 0)) [some (.obr "Seeker" (SK X (q++[c]) (P++[l]) (n+(l.length:Int)))),some (.val (zE c)),none]) _=_
  rw[ec,Fl.of_ok]
  have e2:((P++[l]).map ntl++[ntl g]).map D.lst=(((P++[l])++[g]).map ntl).map D.lst:=by rw[map_append (f:=ntl) (l₁:=P++[l])];rfl
  rw[e2,zb6,Ug]
  show jU _ [some (.obj 1 "Seeker" (SK X (q++[c]) ((P++[l])++[g]) (n+(l.length:Int)))),some (.val (zE c)),none]=_
  rw[WD (d:=.int (g.length:Nat)) (by rw[JO (X7 (uM rfl) Xt) Wc (Za (P++[l]) g)];simp)]
 unfold yn jW uJ
 rw[st,zY (W2 t1),zY (W2 t2),zY (Wz h3 rfl (by show 4<1000;decide)),zb5]
 show flM 0 "Seeker" (jV _ _ _ _ _ _ _ _ [some (.obj 1 "Seeker" (SK X (q++[c]) (P++[l]) n)),some (.val (zE c)),none])=_
 rw[hlt]
 rfl
theorem Ut(x:List Nat)(c:Nat):Txt.slice (⟨(x++[c]).toArray⟩:Str) none (some (-1))=⟨x.toArray⟩:=by
 have:=eq_of_beq (slice_closes_to_neg (x:=⟨(x++[c]).toArray⟩) (j:=-1) (k:=_) (by lia) (by rw[uW];simp;lia) rfl)
 rw[this,uW]
 congr 2
 show List.take _ (List.drop 0 (x++[c]))=_
 rw[drop_zero,length_append,length_singleton]
 rw[show((-1:Int)+((x.length+1:Nat):Int)-0).toNat=x.length by lia]
 simp
theorem Vb(X:List (List Nat))(q:List Nat)(c:Nat)(P:List (List Nat))(l g:List Nat)(n:Int)(hq:q.length≤100) :
  zQ (SK X (q++[c]) ((P++[l])++[g]) n) []=.ok (.int (l.length:Nat),SK X q (P++[l]) n):=by
 have st:wA (.obj 1 "Seeker" (SK X (q++[c]) ((P++[l])++[g]) n)) 0 1 []=[some (.obj 1 "Seeker" (SK X (q++[c]) ((P++[l])++[g]) n))]:=rfl
 have t1:FD.tB (eOp eqD (yo yB (za (eAt 0 "Seeker" "query") zi)) (eC (.int 0))) [some (.obj 1 "Seeker" (SK X (q++[c]) ((P++[l])++[g]) n))]=.ok false:=by
  refine xY (op2 (uN (jw (uM rfl) Vg) (wm (q++[c]) (by simp;lia))) rfl ?_)
  rw[vw]
  congr 2
  rw[beq_eq_false_iff_ne]
  simp;lia
 have h2:eSl (eAt 0 "Seeker" "query") j7 (ve (xQ (eC (.int 1)))) [some (.obj 1 "Seeker" (SK X (q++[c]) ((P++[l])++[g]) n))]=.ok (tx q):=by
  refine L9 (jw (uM rfl) Vg) rfl (za3 Wc) ?_
  show(if (⟨(q++[c]).toArray⟩:Str).length≤sizeLine then Rs.ok (D.str (Txt.slice ⟨(q++[c]).toArray⟩ none (some (-1)))) else .no)=_
  rw[if_pos (by rw[uW,zK];simp;lia),Ut]
 have hp:(((P++[l])++[g]).map ntl).dropLast.map D.lst=((P++[l]).map ntl).map D.lst:=by
  rw[map_append (f:=ntl) (l₁:=P++[l]),List.map_singleton,List.dropLast_concat]
 unfold zQ jW jv
 rw[st,zY (W2 t1),zY (Wz h2 rfl (by show 4<1000;decide)),zb5]
 show flM 0 "Seeker" (zC _ _ [some (.obj 1 "Seeker" (SK X q ((P++[l])++[g]) n))])=_
 rw[zY (TQ (n:=1) (es:=((P++[l])++[g]).map ntl) rfl Xt (by simp)),hp,Ug]
 show flM 0 "Seeker" (jU _ [some (.obj 1 "Seeker" (SK X q (P++[l]) n))])=_
 rw[WD (d:=.int (l.length:Nat)) (by rw[JO (X7 (uM rfl) Xt) Wc (Za P l)];simp)]
 rfl
noncomputable def adL(X:List (List Nat))(q:List Nat)(j:Nat):List (List Nat):=(List.range (q.length+1)).map fun i=>xh X (q.take i)++if i<j then [X.length] else []
theorem adL_0(X:List (List Nat))(q:List Nat):adL X q 0=LV X q:=by
 unfold adL LV
 refine List.map_congr_left fun i _=>?_
 rw[if_neg (by lia),append_nil]
theorem Qa(X:List (List Nat))(q:List Nat)(j:Nat)(h:j≤q.length):((adL X q j).map ntl)[j]?=some (ntl (xh X (q.take j))):=by
 unfold adL
 rw[map_map,getElem?_map,List.getElem?_range (by lia)]
 simp
theorem J9(X:List (List Nat))(q:List Nat)(j:Nat)(h:j≤q.length):((adL X q j).map ntl).set j (ntl (xh X (q.take j))++[.int (X.length:Int)])=(adL X q (j+1)).map ntl:=by
 have e:ntl (xh X (q.take j))++[.int (X.length:Int)]=ntl (xh X (q.take j)++[X.length]):=by simp
 rw[e,← List.map_set]
 congr 1
 unfold adL
 apply List.ext_getElem
 ·simp
 ·intro i h1 h2
  rw[List.getElem_set]
  split
  ·rename_i hij
   subst hij
   simp
  ·rename_i hij
   simp only[List.getElem_map,List.getElem_range]
   by_cases z:i<j
   ·rw[if_pos z,if_pos (by lia)]
   ·rw[if_neg z,if_neg (by lia)]
theorem Ve(X:List (List Nat))(x q:List Nat)(j:Nat)(h1:∀i,i<j→xv (q.take i) x=true)(h2:∀i,j≤i→i≤q.length→xv (q.take i) x=false):adL X q j=LV (X++[x]) q:=by
 unfold adL LV
 refine List.map_congr_left fun i hi=>?_
 have hi:=mem_range.mp hi
 rw[MY]
 by_cases z:i<j
 ·rw[if_pos z,h1 i z,if_pos rfl]
 ·rw[if_neg z,h2 i (by lia) (by lia),if_neg (by simp)]
noncomputable def adB:FS:=(zC (X2 0 "Seeker" "looks" (eC (.int 1)))
  (zC (sIf (uP (vQ (zv wU (za (eSl (eAt 0 "Seeker" "query") j7 (ve (ze 3))) (za (ze 1) zi))))) Uv yd)
  (YD 0 "Seeker" "levels" (ze 3) (ze 2))))
noncomputable def A4(X:List (List Nat))(x q:List Nat)(L:List (List Nat))(n:Int)(s:Option Sl):DS:=[some (.obj 1 "Seeker" (SK (X++[x]) q L n)),some (.val (tx x)),some (.val (.int (X.length:Int))),s]
theorem Wv{q x:List Nat}{j i:Nat}(h:xv (q.take j) x=false)(hij:j≤i):xv (q.take i) x=false:=by
 cases z:xv (q.take i) x with
 |false=>rfl
 |true=>
  have:=Ql j z
  rw[List.take_take,Nat.min_eq_left hij,h] at this
  cases this
theorem L0(X:List (List Nat))(x q:List Nat)(L:List (List Nat))(n:Int)(j:Nat)(hq:q.length≤100)(hx:x.length≤1000)(sq:∀c∈q,c<128):uP (vQ (zv wU (za (eSl (eAt 0 "Seeker" "query") j7 (ve (ze 3))) (za (ze 1) zi)))) (A4 X x q L n (some (.val (.int (j:Int)))))=.ok (!xv (q.take j) x):=by
 refine L6 (tru_ok (Z5 (L9 (jw (uM rfl) Vg) rfl (za3 (zq rfl)) ?_) (zq rfl) (JX (q.take j) x (by rw[length_take];lia) hx fun c hc=>sq c (List.mem_of_mem_take hc))))
 show(if (⟨q.toArray⟩:Str).length≤sizeLine then Rs.ok (D.str (Txt.slice ⟨q.toArray⟩ none (some (j:Int)))) else .no)=_
 rw[if_pos (by rw[uW,zK];lia),Gw]
theorem J8(X:List (List Nat))(x q:List Nat)(hq:q.length≤100)(hX:X.length≤1000)(hx:x.length≤1000)(sq:∀c∈q,c<128):∀(m j:Nat) (n:Int) (s:Option Sl),j+1+m=q.length+1→(∀i,i<j+1→xv (q.take i) x=true) →
  ∃s',yS (gNm 3) adB ((List.range' (j+1) m).map fun (k:Nat)=>D.int k) (A4 X x q (adL X q (j+1)) n s)=.nx (A4 X x q (LV (X++[x]) q) (n+(((List.range' j m).filter fun i=>xv (q.take i) x).length:Nat)) s'):=by
 intro l_
 induction l_ with
 |zero=>
  rintro j n s h hs
  refine⟨s,?_⟩
  rw[Ve X x q (j+1) hs fun i h1 h2=>by lia]
  simp[yS]
 |succ m ih_=>
  rintro j n s h hs
  have a1:X2 0 "Seeker" "looks" (eC (.int 1)) (A4 X x q (adL X q (j+1)) n (some (.val (.int ((j+1:Nat):Int)))))=.nx (A4 X x q (adL X q (j+1)) (n+1) (some (.val (.int ((j+1:Nat):Int))))):=by
   unfold A4
   rw[zj7 (n:=1) (a:=n) (b:=1) rfl zk5 rfl (by show 4<1000;decide),zb6];rfl
  have t:=L0 X x q (adL X q (j+1)) (n+1) (j+1) hq hx sq
  have cnt:(((List.range' j (m+1)).filter fun i=>xv (q.take i) x).length:Int)=1+(((List.range' (j+1) m).filter fun i=>xv (q.take i) x).length:Nat):=by
   rw[range'_succ,filter_cons,hs j (by lia),if_pos rfl,length_cons]
   lia
  rw[cnt]
  cases z:xv (q.take (j+1)) x with
  |false=>
   refine⟨some (.val (.int ((j+1:Nat):Int))),?_⟩
   have nil:(List.range' (j+1) m).filter (fun i=>xv (q.take i) x)=[]:=by
    rw[List.filter_eq_nil_iff]
    intro i hi
    have:=(List.mem_range'_1.mp hi).1
    rw[Wv z this];simp
   rw[nil,length_nil]
   rw[z] at t
   have e:adB (A4 X x q (adL X q (j+1)) n (some (.val (.int ((j+1:Nat):Int)))))=.bk (A4 X x q (adL X q (j+1)) (n+1) (some (.val (.int ((j+1:Nat):Int))))):=by
    unfold adB
    rw[zY a1,zR,zi5 t]
    rfl
   rw[Ve X x q (j+1) hs fun i h1 h2=>Wv z h1] at e
   rw[range'_succ,map_cons,yS]
   show Fl.of (Rs.ok (A4 X x q (adL X q (j+1)) n (some (.val (.int ((j+1:Nat):Int)))))) _=_
   rw[Fl.of_ok,Ve X x q (j+1) hs fun i h1 h2=>Wv z h1,e]
   simp
  |true=>
   rw[z] at t
   have hj:j+1≤q.length:=by lia
   have e:adB (A4 X x q (adL X q (j+1)) n (some (.val (.int ((j+1:Nat):Int)))))=.nx (A4 X x q (adL X q (j+1+1)) (n+1) (some (.val (.int ((j+1:Nat):Int))))):=by
    unfold adB
    rw[zY a1,zY (W2 t)]
    unfold A4
    rw[J7 (n:=1) (j:=j+1) rfl Xt (zq rfl) (Qa X q (j+1) hj) (zq rfl) (by rw[length_map];have:=ux X (q.take (j+1));lia),J9 X q (j+1) hj,Ug]
    rfl
   obtain⟨s',ih⟩:=ih_ (j+1) (n+1) (some (.val (.int ((j+1:Nat):Int)))) (by lia) fun i hi=>by
    by_cases y:i<j+1
    ·exact hs i y
    ·rw[show i=j+1 by lia];exact z
   refine⟨s',?_⟩
   rw[range'_succ,map_cons,yS]
   show Fl.of (Rs.ok (A4 X x q (adL X q (j+1)) n (some (.val (.int ((j+1:Nat):Int)))))) _=_
   rw[Fl.of_ok,e]
   simp only
   rw[ih,← Int.add_assoc]
noncomputable def adN(x q:List Nat):Nat:=((List.range q.length).filter fun i=>xv (q.take i) x).length
theorem zk1(x q:List Nat):adN x q≤q.length:=by
 unfold adN
 have:=length_filter_le (fun i=>xv (q.take i) x) (List.range q.length)
 simpa using this
theorem rg2'{fa fb:FE}{τ:DS}{i n:Nat}(h1:fa τ=.ok (.int (i:Int)))(h2:fb τ=.ok (.int ((i+n:Nat):Int)))(hn:i+n≤2000):Q5 (za fa (za fb zi)) τ=.ok ((List.range' i n).map fun (k:Nat)=>D.int k):=by
 unfold Q5
 rw[zu,h1,Rs.bind_ok,zu,h2,Rs.bind_ok,zM,Rs.bind_ok,Rs.bind_ok,Rs.bind_ok]
 simp only[XM]
 rw[if_pos ⟨⟨by lia,by lia⟩,by lia,by lia⟩]
 unfold uK
 have:(((i+n:Nat):Int)-(i:Int)).toNat=n:=by lia
 rw[this,List.range'_eq_map_range,map_map]
 congr 1
theorem zj9(X:List (List Nat))(q:List Nat)(n:Int)(x:List Nat)(hq:q.length≤100)(hX:X.length≤1000)(hx:x.length≤1000)(sq:∀c∈q,c<128) :
  xM (SK X q (LV X q) n) [tx x]=.ok (.int (X.length:Nat),SK (X++[x]) q (LV (X++[x]) q) (n+(adN x q:Nat))):=by
 have st:wA (.obj 1 "Seeker" (SK X q (LV X q) n)) 0 4 [tx x]=[some (.obj 1 "Seeker" (SK X q (LV X q) n)),some (.val (tx x)),none,none]:=rfl
 have h1:Ua 0 "Seeker" "names" [some (.obj 1 "Seeker" (SK X q (LV X q) n)),some (.val (tx x)),none,none]=.ok (.int (X.length:Int)):=by
  rw[len_A (G8 (uM rfl) L4),length_map]
 have e2:X.map tx++[tx x]=(X++[x]).map tx:=by simp
 obtain⟨s',lp⟩:=J8 X x q hq hX hx sq q.length 0 n none (by lia) fun i hi=>by
  obtain rfl:i=0:=by lia
  rw[List.take_zero];exact Vo x
 have a2:Vt 0 "Seeker" "names" (ze 1) [some (.obj 1 "Seeker" (SK X q (LV X q) n)),some (.val (tx x)),some (.val (.int (X.length:Int))),none]=.nx (A4 X x q (LV X q) n none):=by
  rw[LY (n:=1) (ds:=X.map tx) (d:=tx x) rfl L4 (zq rfl) (by rw[length_map];exact hX),e2,SK_pn];rfl
 have a3:YD 0 "Seeker" "levels" (eC (.int 0)) (ze 2) (A4 X x q (LV X q) n none)=.nx (A4 X x q (adL X q 1) n none):=by
  rw[← adL_0]
  unfold A4
  rw[J7 (n:=1) (j:=0) rfl Xt rfl (Qa X q 0 (by lia)) (zq rfl) (by rw[length_map];have:=ux X (q.take 0);lia),J9 X q 0 (by lia),Ug]
  rfl
 have r4:Q5 (za (eC (.int 1)) (za (eOp zO (yo yB (za (eAt 0 "Seeker" "query") zi)) (eC (.int 1))) zi)) (A4 X x q (adL X q 1) n none)=.ok ((List.range' 1 q.length).map fun (k:Nat)=>D.int k):=
  rg2' (i:=1) rfl (op2 (uN (jw (uM rfl) Vg) (wm q (by lia))) rfl (by rw[xg];congr 2;lia)) (by lia)
 have f4:ug (Q5 (za (eC (.int 1)) (za (eOp zO (yo yB (za (eAt 0 "Seeker" "query") zi)) (eC (.int 1))) zi))) (gNm 3) adB (A4 X x q (adL X q 1) n none)=.nx (A4 X x q (LV (X++[x]) q) (n+(adN x q:Nat)) s'):=by
  rw[vg,r4,Fl.of_ok]
  unfold adN
  rw[range_eq_range']
  exact lp
 unfold xM jW Zr
 rw[st,zY (uR h1)]
 simp only[set_cons_succ,set_cons_zero]
 rw[zY a2,zY a3]
 unfold adB at f4
 rw[zY f4,WD (d:=.int (X.length:Nat)) (zq rfl)]
 rfl
noncomputable def wo(h:Nat)(l:List Nat):List Nat:=l.filter fun k=>!(k==h)
theorem wo_ok(h:Nat)(l:List Nat)(hl:l.length≤1000):xN [.int (h:Int),.lst (ntl l)]=.ok (ntl (wo h l)):=by
 have st:zX 2 [.int (h:Int),.lst (ntl l)]=[some (.val (.int (h:Int))),some (.val (.lst (ntl l)))]:=rfl
 have cf:=wH (set:=gNm 0) (ft:=FD.tB (eOp neD (ze 0) (ze 1))) (fe:=ze 0) (τ:=[none,some (.val (.int (h:Int)))]) (fun (k:Nat)=>D.int k) (fun (k:Nat)=>D.int k) (fun k=>!(k==h)) l fun k _=>by
  refine⟨[some (.val (.int (k:Int))),some (.val (.int (h:Int)))],rfl,xY (op2 (zq rfl) (zq rfl) ?_),rfl⟩
  rw[Mo]
  have:((k:Int)==(h:Int))=(k==h):=by
   rw[Bool.eq_iff_iff,beq_iff_eq,beq_iff_eq];lia
  rw[this]
 have hle:(wo h l).length≤l.length:=length_filter_le _ _
 have ec:=uz (k:=1) (idx:=[0]) (fi:=ZM (ze 1)) (τ:=[some (.val (.int (h:Int))),some (.val (.lst (ntl l)))]) (ds:=ntl l) rfl cf (by rw[length_map];unfold wo at hle;lia)
 unfold xN FD.runN Ws
 rw[st]
 unfold X1
 rw[ec,Fl.of_ok]
 rfl
theorem Wa:∀l:List Nat,noLs (ntl l)=true:=by
 intro l_
 induction l_ with
 |nil=>
  simp[noLs]
 |cons r rs ih_=>
  have ih:=ih_
  unfold ntl at ih ⊢
  rw[map_cons,noLs,ih]
  simp[noL]
theorem V0(h:Nat):∀L:List (List Nat),(∀l∈L,l.length≤1000)→uY xN (h:Int) (L.map ntl)=some ((L.map (wo h)).map ntl):=by
 intro l_
 induction l_ with
 |nil=>
  rintro _
  exact rfl
 |cons l L ih_=>
  rintro hl
  rw[map_cons,uY,wo_ok h l (hl l mem_cons_self)]
  simp only
  rw[if_pos (Wa _),ih_ fun m hm=>hl m (mem_cons_of_mem _ hm)]
  rfl
theorem LF(X:List (List Nat))(q:List Nat)(l:List Nat)(L:List (List Nat))(n:Int)(h:Nat)(hm:h∈l)(hl:∀m∈l::L,m.length≤1000)(hL:L.length≤1000) :
  xt (SK X q (l::L) n) [.int (h:Int)]=.ok (.non,SK X q ((l::L).map (wo h)) n):=by
 have st:wA (.obj 1 "Seeker" (SK X q (l::L) n)) 0 2 [.int (h:Int)]=[some (.obj 1 "Seeker" (SK X q (l::L) n)),some (.val (.int (h:Int)))]:=rfl
 have t1:FD.tB (eLd 0 "Seeker" (eOp YY (ze 1) (Ub 0 "Seeker" "levels" (eC (.int 0))))) [some (.obj 1 "Seeker" (SK X q (l::L) n)),some (.val (.int (h:Int)))]=.ok false:=by
  refine xY ?_
  unfold eLd
  rw[uM (fs:=SK X q (l::L) n) rfl,Rs.bind_ok,op2 (zq rfl) (MJ (p:=(0,ntl l)) (X7 (uM rfl) Xt) (k:=0) rfl (J6 (j:=0) rfl)) (QM h l),Rs.bind_ok,if_pos (show FD.scal (.bl _)=true from rfl)]
  have:l.contains h=true:=List.contains_iff_mem.mpr hm
  rw[this];rfl
 have h2:Jo 0 1 "Seeker" "levels" xN [some (.obj 1 "Seeker" (SK X q (l::L) n)),some (.val (.int (h:Int)))]=.nx [some (.obj 1 "Seeker" (SK X q ((l::L).map (wo h)) n)),some (.val (.int (h:Int)))]:=by
  unfold Jo
  rw[JJ (n:=1) (es:=(l::L).map ntl) rfl Xt,Fl.of_ok]
  simp only[getElem?_cons_succ,getElem?_cons_zero]
  rw[V0 h (l::L) hl]
  simp only
  rw[if_pos ⟨by show 4<1000;decide,by rw[zK];simp;lia⟩,Ug]
  rfl
 unfold xt jW ju
 rw[st,zY (W2 t1),h2]
 rfl
theorem MH(X:List (List Nat))(hl:X.length≤1000):z8 [] [.lst (X.map tx)]=.ok (.non,SK X [] (LV X []) 0):=by rw[zk9];exact MG X hl
theorem L5(X:List (List Nat))(q:List Nat):(LVp X q).length=q.length:=by unfold LVp;simp
theorem JN(X:List (List Nat))(q:List Nat)(n:Int)(c:Nat)(hX:∀x∈X,x.length≤1000)(hXl:X.length≤1000)(hq:q.length<8)(ha:∀c∈q,c∈QS)(hc:c∈QS) :
  yn (SK X q (LV X q) n) [zE c]=.ok (.int ((xh X (q++[c])).length:Nat),SK X (q++[c]) (LV X (q++[c])) (n+((xh X q).length:Nat))):=by
 have h:=QZ X q (LVp X q) (xh X q) n c hX hq ha hc (fun k hk=>W5 hk) (by have:=ux X q;lia) (by rw[L5];lia)
 rw[← Zu,← Q9,← Qc] at h
 exact h
theorem zb2(X:List (List Nat))(q:List Nat)(c:Nat)(n:Int)(hq:q.length≤100):zQ (SK X (q++[c]) (LV X (q++[c])) n) []=.ok (.int ((xh X q).length:Nat),SK X q (LV X q) n):=by
 have h:=Vb X q c (LVp X q) (xh X q) (xh X (q++[c])) n hq
 rw[← Zu,← Qc] at h
 exact h
theorem V4(X:List (List Nat))(q:List Nat)(n:Int):zN (SK X q (LV X q) n) []=.ok (nts (xh X q)):=by rw[Zu];exact Xg X q _ _ n
theorem nowL(X:List (List Nat))(q:List Nat)(n:Int)(many:Nat)(hq:q.length≤1000)(hX:∀x∈X,x.length≤1000)(hXl:X.length<64)(ha:∀c∈q,c<128):z7 (SK X q (LV X q) n) [.int (many:Int)]=.ok (.lst ((Mh X q (xh X q) many).map xk)):=by
 rw[Zu]
 exact UM X q _ _ n many hq hX ha (JY X q) (by have:=ux X q;lia) fun k hk=>W5 hk
theorem Qj(X:List (List Nat))(m:Nat)(h:m<X.length):X.take (m+1)=X.take m++[X.getD m []]:=by
 rw[List.take_succ,getElem?_eq_getElem h]
 simp[h]
theorem VL(q:List Nat):neD (tx q) (.str "")=.ok (.bl (!q.isEmpty)):=by
 rw[J0]
 show neD (.str _) (.str _)=_
 rw[za4]
 congr 3
 cases q with
 |nil=>rfl
 |cons a q=>rw[beq_eq_false_iff_ne.mpr (by simp)];rfl
theorem tx_ne(q:List Nat):neD (tx q) (tx q)=.ok (.bl false):=by
 show neD (.str _) (.str _)=_
 rw[za4]
 simp
noncomputable def T10(ns:List Int)(X:List (List Nat))(w:List Nat)(A B:Fs)(m g:Nat)(a7 a8 a9:Option Sl):DS:=[some (.val (.scr ns)),some (.val (.lst (X.map tx))),some (.val (tx w)),some (.obj 0 "Seeker" A),some (.obj 0 "Seeker" B),some (.val (.int (m:Int))),some (.val (.int (g:Int))),a7,a8,a9]
noncomputable abbrev SL(X:List (List Nat))(q:List Nat)(n:Int):Fs:=SK X q (LV X q) n
noncomputable def adS:FS:=(zC (x9 (xV 4 "Seeker" "add" xM (za (eOp ixD (ze 1) (ze 5)) zi))) (yR 5 (eOp zO (ze 5) (eC (.int 1)))))
section
variable{ns:List Int}{X:List (List Nat)}{w q:List Nat}{A:Fs}{g:Nat}{a7 a8 a9:Option Sl}
theorem zk0(m:Nat)(n:Int)(hm:m<X.length)(hX:∀x∈X,x.length≤1000)(hXl:X.length≤1000)(hq:q.length≤100)(sq:∀c∈q,c<128) :
  adS (T10 ns X w A (SL (X.take m) q n) m g a7 a8 a9)=.nx (T10 ns X w A (SL (X.take (m+1)) q (n+(adN (X.getD m []) q:Nat))) (m+1) g a7 a8 a9):=by
 have h:=zj9 (X.take m) q n (X.getD m []) hq (by rw[length_take];lia) (hX _ (getD_mem hm)) sq
 rw[← Qj X m hm] at h
 unfold adS
 rw[zY (vv (vk (n:=0) (o:=SL (X.take m) q n) (τ:=T10 ns X w A (SL (X.take m) q n) m g a7 a8 a9) rfl rfl (ZP (op2 (zq rfl) (zq rfl) (j8 X m hm))) h))]
 show yR 5 _ (T10 ns X w A (SL (X.take (m+1)) q (n+(adN (X.getD m []) q:Nat))) m g a7 a8 a9)=_
 rw[uR (d:=.int ((m+1:Nat):Int)) (op2 (zq rfl) rfl xg)]
 rfl
theorem Uh{ft:FT}(b:Nat→Bool)(hX:∀x∈X,x.length≤1000)(hXl:X.length≤1000)(hq:q.length≤100)(sq:∀c∈q,c<128)
  (hft:∀(m:Nat) (B:Fs),m≤X.length→ft (T10 ns X w A B m g a7 a8 a9)=.ok (decide (m<X.length)&&b m)):∀(f m n:Nat),m≤X.length→X.length-m<f →
  ∃m' n':Nat,m≤m'∧m'≤X.length∧n'+m*q.length≤n+m'*q.length∧((∀k,b k=true)→m'=X.length)∧vP ft adS f (T10 ns X w A (SL (X.take m) q (n:Int)) m g a7 a8 a9)=.nx (T10 ns X w A (SL (X.take m') q (n':Int)) m' g a7 a8 a9)
 |0,m,n,_,h=>by lia
 |f+1,m,n,hm,h=>by
  have t:=hft m (SL (X.take m) q (n:Int)) hm
  cases z:(decide (m<X.length)&&b m) with
  |false=>
   rw[z] at t
   refine⟨m,n,le_refl _,hm,le_refl _,fun hb=>?_,?_⟩
   ·rw[hb m,Bool.and_true,decide_eq_false_iff_not] at z
    lia
   ·rw[vP,t,Fl.of_ok,if_neg (by simp)]
  |true=>
   rw[z] at t
   rw[Bool.and_eq_true,decide_eq_true_eq] at z
   have e:=zk0 (ns:=ns) (w:=w) (A:=A) (g:=g) (a7:=a7) (a8:=a8) (a9:=a9) m (n:Int) z.1 hX hXl hq sq
   have hn:=zk1 (X.getD m []) q
   refine byc fun zG_=>?_
   obtain⟨m',n',h1,h2,h3,h4,h5⟩:=Uh b hX hXl hq sq hft f (m+1) (n+adN (X.getD m []) q) z.1 (by lia)
   refine zG_ ?_
   refine⟨m',n',by lia,h2,?_,h4,?_⟩
   ·rw[Nat.succ_mul] at h3;lia
   ·rw[vP,t,Fl.of_ok,if_pos rfl,e]
    exact h5
end
noncomputable def whT(k:FE):FT:=(uQ (FD.tB (eOp ltI (ze 5) (yo yB (za (ze 1) zi)))) (FD.tB (eOp eqD (zv zr (za (ze 0) (za (eOp zO (eOp zO (eC (.int 120)) (eOp vV (eC (.int 10)) k)) (ze 5)) (za (eC (.int 2)) zi)))) (eC (.int 0)))))
noncomputable def lpB:FS:=(zC (uS (whT (ze 7)) adS)
  (zC (x9 (xV 3 "Seeker" "letter" yn (za (ze 8) zi)))
  (zC (x9 (xV 4 "Seeker" "letter" yn (za (ze 8) zi)))
  (zC (yR 6 (eOp zO (ze 6) (eC (.int 1))))
  (sIf (FD.tB (eOp eqD (zv zr (za (ze 0) (za (eOp zO (eC (.int 180)) (ze 7)) (za (eC (.int 4)) zi)))) (eC (.int 0)))) (zC (x9 (xV 3 "Seeker" "back" zQ zi))
  (x9 (xV 4 "Seeker" "back" zQ zi))) yd)))))
section
variable{ns:List Int}{X:List (List Nat)}{w:List Nat}
theorem Lr(h63:ns.length≤63)(hX:∀x∈X,x.length≤1000)(hXl:X.length≤10)(W k m g n c:Nat)(nA:Int)(q:List Nat)(a9:Option Sl)(hk:k≤10)(hqk:q.length≤k)(hq8:q.length<8)(hqW:q.length≤W)(sq:∀c∈q,c∈QS)(hc:c∈QS)(hm:m≤X.length)(hn:n≤X.length*g+m*W) :
  ∃(q':List Nat) (m' n':Nat) (nA':Int),q'.length≤q.length+1∧(∀c∈q',c∈QS)∧m'≤X.length∧n'≤X.length*(g+1)+m'*W ∧
   lpB (T10 ns X w (SL X q nA) (SL (X.take m) q (n:Int)) m g (some (.val (.int (k:Int)))) (some (.val (zE c))) a9)=.nx (T10 ns X w (SL X q' nA') (SL (X.take m') q' (n':Int)) m' (g+1) (some (.val (.int (k:Int)))) (some (.val (zE c))) a9):=by
 have q128:∀c∈q,c<128:=fun c h=>Jt c (sq c h)
 refine byc fun zG_=>?_
 obtain⟨m',n',h1,h2,h3,_,h5⟩:=Uh (ns:=ns) (X:=X) (w:=w) (q:=q) (A:=SL X q nA) (g:=g) (a7:=some (.val (.int (k:Int)))) (a8:=some (.val (zE c))) (a9:=a9) (ft:=whT (ze 7)) (fun m=>xR ns (120+10*(k:Int)+(m:Int)) 2==0) hX (by lia) (by lia) q128 (fun m B hm=>by
  refine zb4 (xY (op2 (zq rfl) (uN (zq rfl) (by rw[vc,length_map])) ?_)) fun _=>xY (op2 (u3 (zq rfl) (op2 (op2 rfl (op2 rfl (zq rfl) (vU (by lia))) xg) (zq rfl) xg) rfl (wz ns (120+10*(k:Int)+(m:Int)) 2 h63 (by lia) (by lia) (by decide))) rfl vw)
  rw[VN]
  congr 2
  exact decide_eq_decide.mpr (by lia)) 64 m n hm (by lia)
 refine zG_ ?_
 have hXt:∀x∈X.take m',x.length≤1000:=fun x hx=>hX x (List.mem_of_mem_take hx)
 have hlt:(X.take m').length≤X.length:=by rw[length_take];lia
 have l3:=JN X q nA c hX (by lia) hq8 sq hc
 have l4:=JN (X.take m') q (n':Int) c hXt (by lia) hq8 sq hc
 have hf:=ux (X.take m') q
 have hb:n'+(xh (X.take m') q).length≤X.length*(g+1)+m'*W:=by
  have e1:m'*W=m*W+(m'-m)*W:=by rw[← Nat.add_mul];congr 1;lia
  have e2:m'*q.length=m*q.length+(m'-m)*q.length:=by rw[← Nat.add_mul];congr 1;lia
  have e3:(m'-m)*q.length≤(m'-m)*W:=Nat.mul_le_mul_left _ hqW
  rw[Nat.mul_succ]
  lia
 have dr:=wz ns (180+(k:Int)) 4 h63 (by lia) (by lia) (by decide)
 have hb4:uS (whT (ze 7)) adS (T10 ns X w (SL X q nA) (SL (X.take m) q (n:Int)) m g (some (.val (.int (k:Int)))) (some (.val (zE c))) a9)=.nx (T10 ns X w (SL X q nA) (SL (X.take m') q (n':Int)) m' g (some (.val (.int (k:Int)))) (some (.val (zE c))) a9):=h5
 have t:∀A B,FD.tB (eOp eqD (zv zr (za (ze 0) (za (eOp zO (eC (.int 180)) (ze 7)) (za (eC (.int 4)) zi)))) (eC (.int 0))) (T10 ns X w A B m' (g+1) (some (.val (.int (k:Int)))) (some (.val (zE c))) a9)=.ok (xR ns (180+(k:Int)) 4==0):=fun A B=>xY (op2 (u3 (zq rfl) (op2 rfl (zq rfl) xg) rfl dr) rfl vw)
 unfold lpB
 rw[zY hb4]
 rw[zY (vv (vk (n:=0) (o:=SL X q nA) rfl rfl (ZP (zq rfl)) l3))]
 show ∃q' m'' n'' nA',_∧_∧_∧_∧zC _ _ (T10 ns X w (SL X (q++[c]) (nA+((xh X q).length:Nat))) (SL (X.take m') q (n':Int)) m' g (some (.val (.int (k:Int)))) (some (.val (zE c))) a9)=_
 rw[zY (vv (vk (n:=0) (o:=SL (X.take m') q (n':Int)) rfl rfl (ZP (zq rfl)) l4))]
 show ∃q' m'' n'' nA',_∧_∧_∧_∧zC _ _ (T10 ns X w (SL X (q++[c]) (nA+((xh X q).length:Nat))) (SL (X.take m') (q++[c]) ((n':Int)+((xh (X.take m') q).length:Nat))) m' g (some (.val (.int (k:Int)))) (some (.val (zE c))) a9)=_
 rw[zY (uR (d:=.int ((g+1:Nat):Int)) (op2 (zq rfl) rfl xg))]
 show ∃q' m'' n'' nA',_∧_∧_∧_∧sIf _ _ _ (T10 ns X w (SL X (q++[c]) (nA+((xh X q).length:Nat))) (SL (X.take m') (q++[c]) ((n':Int)+((xh (X.take m') q).length:Nat))) m' (g+1) (some (.val (.int (k:Int)))) (some (.val (zE c))) a9)=_
 cases z:(xR ns (180+(k:Int)) 4==0) with
 |false=>
  refine⟨q++[c],m',n'+(xh (X.take m') q).length,nA+((xh X q).length:Nat),by simp,fun d hd=>?_,h2,hb,?_⟩
  ·rcases mem_append.mp hd with y|y
   ·exact sq d y
   ·obtain rfl:d=c:=by simpa using y
    exact hc
  ·rw[W2 ((t _ _).trans (by rw[z])),Int.natCast_add]
 |true=>
  refine⟨q,m',n'+(xh (X.take m') q).length,nA+((xh X q).length:Nat),by lia,sq,h2,hb,?_⟩
  rw[zi5 ((t _ _).trans (by rw[z]))]
  rw[zY (vv (vk (n:=0) (o:=SL X (q++[c]) (nA+((xh X q).length:Nat))) (ds:=[]) rfl rfl rfl (zb2 X q c _ (by lia))))]
  show x9 _ (T10 ns X w (SL X q (nA+((xh X q).length:Nat))) (SL (X.take m') (q++[c]) ((n':Int)+((xh (X.take m') q).length:Nat))) m' (g+1) (some (.val (.int (k:Int)))) (some (.val (zE c))) a9)=_
  rw[vv (vk (n:=0) (o:=SL (X.take m') (q++[c]) ((n':Int)+((xh (X.take m') q).length:Nat))) (ds:=[]) rfl rfl rfl (zb2 (X.take m') q c _ (by lia))),Int.natCast_add]
  rfl
theorem JL(h63:ns.length≤63)(hX:∀x∈X,x.length≤1000)(hXl:X.length≤10)(W:Nat)(hW:W≤7)(a9:Option Sl):∀(r:List Nat) (k m g n:Nat) (nA:Int) (q:List Nat) (a7 a8:Option Sl),k+r.length≤W→q.length≤k→(∀c∈q,c∈QS)→(∀c∈r,c∈QS)→m≤X.length→n≤X.length*g+m*W →
  ∃(q':List Nat) (m' n':Nat) (nA':Int) (b7 b8:Option Sl),q'.length≤W∧(∀c∈q',c∈QS)∧m'≤X.length∧n'≤X.length*(g+r.length)+m'*W ∧
   yS (gPr 7 8) lpB (xx k (r.map zE)) (T10 ns X w (SL X q nA) (SL (X.take m) q (n:Int)) m g a7 a8 a9)=.nx (T10 ns X w (SL X q' nA') (SL (X.take m') q' (n':Int)) m' (g+r.length) b7 b8 a9):=by
 intro l_
 induction l_ with
 |nil=>
  rintro k m g n nA q a7 a8 hk hq sq sr hm hn
  exact⟨q,m,n,nA,a7,a8,by simp at hk;lia,sq,hm,by simpa using hn,by simp[xx,yS]⟩
 |cons c r ih_=>
  rintro k m g n nA q a7 a8 hk hq sq sr hm hn
  rw[length_cons] at hk
  refine byc fun zG_=>?_
  obtain⟨q1,m1,n1,nA1,h1,h2,h3,h4,h5⟩:=Lr (w:=w) h63 hX hXl W k m g n c nA q a9 (by lia) hq (by lia) (by lia) sq (sr c mem_cons_self) hm hn
  obtain⟨q',m',n',nA',b7,b8,i1,i2,i3,i4,i5⟩:=ih_ (k+1) m1 (g+1) n1 nA1 q1 (some (.val (.int (k:Int)))) (some (.val (zE c))) (by lia) (by lia) h2 (fun d hd=>sr d (mem_cons_of_mem _ hd)) h3 h4
  refine zG_ ?_
  have eg:g+1+r.length=g+(c::r).length:=by rw[length_cons];lia
  rw[eg] at i4 i5
  refine⟨q',m',n',nA',b7,b8,i1,i2,i3,i4,?_⟩
  rw[map_cons,xx,yS]
  show Fl.of (Rs.ok (T10 ns X w (SL X q nA) (SL (X.take m) q (n:Int)) m g (some (.val (.int (k:Int)))) (some (.val (zE c))) a9)) _=_
  rw[Fl.of_ok,h5]
  exact i5
end
noncomputable def bkT:FT:=(FD.tB (eOp neD (yz 3 "Seeker" "typed" yk zi) (eC (.str ""))))
noncomputable def bkB:FS:=(GB (Mg (oB (QL neD (xV 3 "Seeker" "back" zQ zi) (xV 4 "Seeker" "back" zQ zi))) (G9 (FD.tB (eOp neD (yz 3 "Seeker" "now" z7 (za (eC (.int 9)) zi)) (yz 4 "Seeker" "now" z7 (za (eC (.int 9)) zi)))))) (xz (eC (.bl false))) yd)
noncomputable def zk8(X:List (List Nat))(L:List (List Nat)):Prop:=∀l∈L,l.Nodup∧l.length<64∧∀k∈l,k<X.length
theorem zi3(i:Int):neD (.int i) (.int i)=.ok (.bl false):=by rw[Mo];simp
theorem Tj{ns:List Int}{X:List (List Nat)}{w:List Nat}{m g:Nat}{a7 a8 a9:Option Sl}(n1 n2:Int)(hX:∀x∈X,x.length≤1000):∀(j:Nat) (q:List Nat) (L:List (List Nat)) (f:Nat),q.length=j→j<f→j≤100→L.length=j+1→zk8 X L→(∀c∈q,c<128) →
  vP bkT bkB f (T10 ns X w (SK X q L n1) (SK X q L n2) m g a7 a8 a9)=.nx (T10 ns X w (SK X [] [L.headD []] n1) (SK X [] [L.headD []] n2) m g a7 a8 a9):=fun j=>by
 induction j with
 |zero=>
  intro q L f hq hf _ hL _ _
  have:q=[]:=List.length_eq_zero_iff.mp hq
  subst this
  obtain⟨l,rfl⟩:∃l,L=[l]:=List.length_eq_one_iff.mp hL
  have t:bkT (T10 ns X w (SK X [] [l] n1) (SK X [] [l] n2) m g a7 a8 a9)=.ok false:=xY (op2 (xO (o:=SK X [] [l] n1) (ds:=[]) (uM rfl) rfl rfl (jP X [] [l] n1)) rfl (VL []))
  obtain⟨f',rfl⟩:∃f',f=f'+1:=⟨f-1,by lia⟩
  rw[vP,t,Fl.of_ok,if_neg (by simp)]
  rfl
 |succ j ih=>
  intro q L f hq hf hj hL lo sq
  obtain⟨f',rfl⟩:∃f',f=f'+1:=⟨f-1,by lia⟩
  have hq0:q≠[]:=fun e=>by subst e;simp at hq
  obtain⟨q1,c,rfl⟩:∃q1 c,q=q1++[c]:=⟨q.dropLast,q.getLast hq0,(List.dropLast_concat_getLast hq0).symm⟩
  have hL0:L≠[]:=fun e=>by subst e;simp at hL
  obtain⟨L1,l2,rfl⟩:∃L1 l2,L=L1++[l2]:=⟨L.dropLast,L.getLast hL0,(List.dropLast_concat_getLast hL0).symm⟩
  have hL1:L1≠[]:=fun e=>by subst e;simp at hL
  obtain⟨P,l,rfl⟩:∃P l,L1=P++[l]:=⟨L1.dropLast,L1.getLast hL1,(List.dropLast_concat_getLast hL1).symm⟩
  rw[length_append,length_singleton] at hq hL
  have t:bkT (T10 ns X w (SK X (q1++[c]) ((P++[l])++[l2]) n1) (SK X (q1++[c]) ((P++[l])++[l2]) n2) m g a7 a8 a9)=.ok true:=by
   refine(xY (op2 (xO (o:=SK X (q1++[c]) ((P++[l])++[l2]) n1) (ds:=[]) (uM rfl) rfl rfl (jP X _ _ n1)) rfl (VL (q1++[c])))).trans ?_
   simp
  have lo1:zk8 X (P++[l]):=fun y hy=>lo y (mem_append_left _ hy)
  have sq1:∀c∈q1,c<128:=fun d hd=>sq d (mem_append_left _ hd)
  obtain⟨z1,z2,z3⟩:=lo1 l (by simp)
  have b1:=Vb X q1 c P l l2 n1 (by lia)
  have b2:=Vb X q1 c P l l2 n2 (by lia)
  have w1:=UM X q1 P l n1 9 (by lia) hX sq1 z1 z2 z3
  have w2:=UM X q1 P l n2 9 (by lia) hX sq1 z1 z2 z3
  have o3:xV 3 "Seeker" "back" zQ zi (T10 ns X w (SK X (q1++[c]) ((P++[l])++[l2]) n1) (SK X (q1++[c]) ((P++[l])++[l2]) n2) m g a7 a8 a9)=.ok (.int (l.length:Nat),T10 ns X w (SK X q1 (P++[l]) n1) (SK X (q1++[c]) ((P++[l])++[l2]) n2) m g a7 a8 a9):=
   vk (n:=0) (ds:=[]) rfl rfl rfl b1
  have o4:xV 4 "Seeker" "back" zQ zi (T10 ns X w (SK X q1 (P++[l]) n1) (SK X (q1++[c]) ((P++[l])++[l2]) n2) m g a7 a8 a9)=.ok (.int (l.length:Nat),T10 ns X w (SK X q1 (P++[l]) n1) (SK X q1 (P++[l]) n2) m g a7 a8 a9):=
   vk (n:=0) (ds:=[]) rfl rfl rfl b2
  have e:bkB (T10 ns X w (SK X (q1++[c]) ((P++[l])++[l2]) n1) (SK X (q1++[c]) ((P++[l])++[l2]) n2) m g a7 a8 a9)=.nx (T10 ns X w (SK X q1 (P++[l]) n1) (SK X q1 (P++[l]) n2) m g a7 a8 a9):=by
   unfold bkB
   refine ifO_n (oOr_f (oB_ok (Lk o3 o4 (zi3 _))) (T9 (xY (op2 (xO (o:=SK X q1 (P++[l]) n1) (uM rfl) rfl (ZP (a:=.int ((9:Nat):Int)) rfl) w1) (xO (o:=SK X q1 (P++[l]) n2) (uM rfl) rfl (ZP (a:=.int ((9:Nat):Int)) rfl) w2) (JF _)))))
  have hd:((P++[l])++[l2]).headD []=(P++[l]).headD []:=by
   cases P <;> rfl
  rw[vP,t,Fl.of_ok,if_pos rfl,e,hd]
  exact ih q1 (P++[l]) f' (by lia) (by lia) (by lia) (by rw[length_append,length_singleton];rw[length_append,length_singleton] at hL;lia) lo1 sq1
set_option maxHeartbeats 2000000
theorem lv_ok(X:List (List Nat))(hXl:X.length<64)(q:List Nat)(h:Nat):zk8 X ((LV X q).map (wo h)):=fun l hl=>by
 refine byc fun zG_=>?_
 obtain⟨y,hy,rfl⟩:=mem_map.mp hl
 unfold LV at hy
 obtain⟨i,_,rfl⟩:=mem_map.mp hy
 refine zG_ ?_
 have h1:=length_filter_le (fun k=>!(k==h)) (xh X (q.take i))
 have h2:=ux X (q.take i)
 refine⟨List.Pairwise.filter _ (JY X _),?_,fun k hk=>W5 (mem_filter.mp hk).1⟩
 unfold wo;lia
theorem Lq(X:List (List Nat))(q:List Nat):∃L,LV X q=List.range X.length::L∧L.length=q.length:=by
 refine⟨(List.range q.length).map fun i=>xh X (q.take (i+1)),?_,by simp⟩
 unfold LV
 rw[List.range_succ_eq_map,map_cons,List.take_zero,V6,map_map]
 rfl
theorem GF(h n:Nat){τ:DS}{fl:FE}(hf:fl τ=.ok (.int (n:Int)))(hn:n≤1000)(h9:τ[9]?=some (some (.val (.int (h:Int))))) :
  (fun τ=>((wG 1 [9] (vB (za fl zi)) (gNm 0) (FD.tB (eOp neD (ze 0) (ze 1))) (ze 0)) τ).bind fun ds=>Rs.ok (D.lst ds)) τ=.ok (nts (wo h (List.range n))):=by
 have cf:=wH (set:=gNm 0) (ft:=FD.tB (eOp neD (ze 0) (ze 1))) (fe:=ze 0) (τ:=[none,some (.val (.int (h:Int)))]) (fun (k:Nat)=>D.int k) (fun (k:Nat)=>D.int k) (fun k=>!(k==h)) (List.range n) fun k _=>by
  refine⟨[some (.val (.int (k:Int))),some (.val (.int (h:Int)))],rfl,xY (op2 (zq rfl) (zq rfl) ?_),rfl⟩
  rw[Mo]
  have:((k:Int)==(h:Int))=(k==h):=by
   rw[Bool.eq_iff_iff,beq_iff_eq,beq_iff_eq];lia
  rw[this]
 have t0:wP 1 [9] τ=[none,some (.val (.int (h:Int)))]:=by
  unfold wP
  simp only[map_cons,map_nil,h9];rfl
 have hle:((List.range n).filter fun k=>!(k==h)).length≤n:=by
  have:=length_filter_le (fun k=>!(k==h)) (List.range n)
  simpa using this
 have r1:vB (za fl zi) τ=.ok ((List.range n).map fun (k:Nat)=>D.int k):=by rw[YG hf hn,Jr]
 rw[← t0] at cf
 have ec:=uz r1 cf (by rw[length_map];lia)
 simp only[ec,Rs.bind_ok]
 rfl
theorem Ml:∀(X:List (List Nat)),(∀x∈X,∀c∈x,c<128)→plainDs (X.map tx)=true∧PyData.canLayAll0 (toPys (X.map tx))=true∧PyData.depthAll (toPys (X.map tx))=0:=by
 intro l_
 induction l_ with
 |nil=>
  rintro _
  exact⟨rfl,rfl,rfl⟩
 |cons x X ih_=>
  rintro h
  obtain⟨a,b,c⟩:=ih_ fun y hy=>h y (mem_cons_of_mem _ hy)
  have h1:=h x (mem_cons_self ..)
  have h2:PyData.strOk ⟨x.toArray⟩=true:=by
   simp only[PyData.strOk,size_toArray]
   first
    | (intro i hi;have:=h1 x[i] (getElem_mem _);simp;lia)
    | (simp;intro c hc;have:=h1 c hc;lia)
  exact⟨by simp[plainDs,wa,tx,a],by simp[toPys,xX,tx,PyData.canLayAll0,PyData.canLay0,h2,b],by simp[toPys,xX,tx,PyData.depthAll,PyData.depth,c]⟩
theorem Ll(X:List (List Nat))(h:∀x∈X,∀c∈x,c<128):okD (.lst (X.map tx))=true:=by
 obtain⟨a,b,c⟩:=Ml X h
 simp[okD,wa,xX,PyData.canLay0,PyData.depth,a,b,c]
theorem US(X:List (List Nat))(hX:∀x∈X,U9 x):eqD (.lst (X.map tx)) (.lst [])=.ok (.bl X.isEmpty):=by
 have ok:okD (.lst (X.map tx))=true:=Ll X fun x hx c hc=>ns_lt c ((hX x hx).2.2 c hc)
 have o2:okD (.lst [])=true:=by decide
 have ev:wW (.lst (X.map tx)) (.lst [])=X.isEmpty:=by
  cases X with
  |nil=>simp[wW,xX,toPys,PyData.eqv,PyData.eqvAll]
  |cons x X=>simp[wW,xX,toPys,PyData.eqv,PyData.eqvAll]
 simp only[eqD,ok,o2,and_self,if_true,ev]
theorem main(ns:List Int)(h63:ns.length≤63):JI [.scr ns]=.ok (.bl true):=by
 have st:zX 10 [D.scr ns]=[some (.val (.scr ns)),none,none,none,none,none,none,none,none,none]:=rfl
 refine byc fun zG_=>?_
 obtain⟨X,e1,hXl,hX⟩:=Mp ns 0 4 h63 (by decide) (by decide) (by decide) (by decide)
 have hXl:X.length≤4:=by lia
 have hX3:∀x∈X,x.length≤1000:=fun x hx=>le_trans (hX x hx).2.1 (by decide)
 obtain⟨w,hw5,swQ,e2⟩:=qE_ok ns X 80 79 5 h63 (by decide) (by decide) (by decide) (by decide) (by decide) (by decide) hX (by lia) [none,none,none,none,none,none,none,none]
 have hw5:w.length≤5:=by lia
 unfold qE at e2
 have c1:zv xL (za (ze 0) (za (eC (.int 0)) (za (eC (.int 4)) zi))) [some (.val (.scr ns)),none,none,none,none,none,none,none,none,none]=.ok (.lst (X.map tx)):=u3 (zq rfl) rfl rfl e1
 have mk1:ZS 3 "Seeker" z8 (za (ze 1) zi) [some (.val (.scr ns)),some (.val (.lst (X.map tx))),some (.val (tx w)),none,none,none,none,none,none,none]=.nx [some (.val (.scr ns)),some (.val (.lst (X.map tx))),some (.val (tx w)),some (.obj 0 "Seeker" (SL X [] 0)),none,none,none,none,none,none]:=JH (ZP (zq rfl)) (MH X (by lia))
 have mk2:ZS 4 "Seeker" z8 (za (uy zi) zi) [some (.val (.scr ns)),some (.val (.lst (X.map tx))),some (.val (tx w)),some (.obj 0 "Seeker" (SL X [] 0)),none,none,none,none,none,none]=.nx [some (.val (.scr ns)),some (.val (.lst (X.map tx))),some (.val (tx w)),some (.obj 0 "Seeker" (SL X [] 0)),some (.obj 0 "Seeker" (SL (X.take 0) [] ((0:Nat):Int))),none,none,none,none,none]:=JH (ZP zg1) (MH [] (by simp))
 have it:MQ (za (ze 2) zi) (T10 ns X w (SL X [] 0) (SL (X.take 0) [] ((0:Nat):Int)) 0 0 none none none)=.ok (xx 0 (w.map zE)):=by
  unfold MQ
  rw[ZP (a:=tx w) (zq rfl),Rs.bind_ok]
  simp only[sq1]
  rw[Gk]
 obtain⟨q,m1,n1,nA,b7,b8,hq,sq,hm1,hn1,lp⟩:=JL (ns:=ns) (X:=X) (w:=w) h63 hX3 (by lia) w.length (by lia) none w 0 0 0 0 0 [] none none (by lia) (by simp) (by simp) swQ (by lia) (by lia)
 refine zG_ ?_
 rw[zero_add] at hn1 lp
 have q128:∀c∈q,c<128:=fun c h=>Jt c (sq c h)
 have f7:ug (MQ (za (ze 2) zi)) (gPr 7 8) lpB (T10 ns X w (SL X [] 0) (SL (X.take 0) [] ((0:Nat):Int)) 0 0 none none none)=.nx (T10 ns X w (SL X q nA) (SL (X.take m1) q (n1:Int)) m1 w.length b7 b8 none):=by
  rw[vg,it,Fl.of_ok];exact lp
 unfold lpB whT adS at f7
 refine byc fun zG_=>?_
 obtain⟨m2,n2,_,hm2,hn2,hall,wh⟩:=Uh (ns:=ns) (X:=X) (w:=w) (q:=q) (A:=SL X q nA) (g:=w.length) (a7:=b7) (a8:=b8) (a9:=none) (ft:=FD.tB (eOp ltI (ze 5) (yo yB (za (ze 1) zi)))) (fun _=>true) hX3 (by lia) (by lia) q128 (fun m B hm=>by
  refine xY (op2 (zq rfl) (uN (zq rfl) (by rw[vc,length_map])) ?_)
  rw[VN,Bool.and_true]
  exact congrArg Rs.ok (congrArg D.bl (decide_eq_decide.mpr (by lia)))) 64 m1 n1 hm1 (by lia)
 refine zG_ ?_
 obtain rfl:=hall fun _=>rfl
 rw[List.take_length] at wh
 have f8:uS (FD.tB (eOp ltI (ze 5) (yo yB (za (ze 1) zi)))) adS (T10 ns X w (SL X q nA) (SL (X.take m1) q (n1:Int)) m1 w.length b7 b8 none)=.nx (T10 ns X w (SL X q nA) (SL X q (n2:Int)) X.length w.length b7 b8 none):=wh
 unfold adS at f8
 have hb:n2≤X.length*w.length+X.length*w.length:=by
  have a1:m1*w.length=m1*q.length+m1*(w.length-q.length):=by rw[← Nat.mul_add,Nat.add_sub_of_le hq]
  have a2:X.length*w.length=X.length*q.length+X.length*(w.length-q.length):=by rw[← Nat.mul_add,Nat.add_sub_of_le hq]
  have a3:m1*(w.length-q.length)≤X.length*(w.length-q.length):=Nat.mul_le_mul_right _ hm1
  lia
 generalize hτ:T10 ns X w (SL X q nA) (SL X q (n2:Int)) X.length w.length b7 b8 none=τ at f8
 have o3:vT τ 3 "Seeker" = .ok (SL X q nA):=by rw[← hτ];exact uM rfl
 have o4:vT τ 4 "Seeker" = .ok (SL X q (n2:Int)):=by rw[← hτ];exact uM rfl
 have v1:ze 1 τ=.ok (.lst (X.map tx)):=by rw[← hτ];exact zq rfl
 have v6:ze 6 τ=.ok (.int (w.length:Int)):=by rw[← hτ];exact zq rfl
 have v2:ze 2 τ=.ok (tx w):=by rw[← hτ];exact zq rfl
 have v0:ze 0 τ=.ok (.scr ns):=by rw[← hτ];exact zq rfl
 have nw:∀n:Int,z7 (SL X q n) [.int ((9:Nat):Int)]=.ok (.lst ((Mh X q (xh X q) 9).map xk)):=fun n=>nowL X q n 9 (by lia) hX3 (by lia) q128
 have t9:Z9 (FD.tB (eOp neD (yz 3 "Seeker" "typed" yk zi) (yz 4 "Seeker" "typed" yk zi))) (Z9 (FD.tB (eOp neD (yz 3 "Seeker" "fitting" zN zi) (yz 4 "Seeker" "fitting" zN zi))) (FD.tB (eOp neD (yz 3 "Seeker" "now" z7 (za (eC (.int 9)) zi)) (yz 4 "Seeker" "now" z7 (za (eC (.int 9)) zi))))) τ=.ok false:=
  Mb (xY (op2 (xO o3 rfl rfl (jP X q _ _)) (xO o4 rfl rfl (jP X q _ _)) (tx_ne q))) (Mb (xY (op2 (xO o3 rfl rfl (V4 X q _)) (xO o4 rfl rfl (V4 X q _)) (zf8 _))) (xY (op2 (xO o3 rfl (ZP (a:=.int ((9:Nat):Int)) rfl) (nw _)) (xO o4 rfl (ZP (a:=.int ((9:Nat):Int)) rfl) (nw _)) (JF _))))
 have lk:yz 4 "Seeker" "looked" yC zi τ=.ok (.int (n2:Int)):=xO o4 rfl rfl (QV X q _ _)
 have t10:FD.tB (eOp gtD (yz 4 "Seeker" "looked" yC zi) (eOp vV (yo yB (za (ze 1) zi)) (eOp zO (ze 6) (yo yB (za (ze 2) zi))))) τ=.ok false:=by
  refine xY (op2 lk (op2 (uN v1 (by rw[vc,length_map])) (op2 v6 (uN v2 (wm w (by lia))) xg) (vU (by lia))) ?_)
  rw[V1,decide_eq_false]
  rw[Int.mul_add]
  have:((X.length:Int)*(w.length:Int))=((X.length*w.length:Nat):Int):=by rw[Int.natCast_mul]
  rw[this];lia
 have t11:FD.tB (eOp eqD (ze 1) (uy zi)) τ=.ok X.isEmpty:=xY (op2 v1 zg1 (US X hX))
 unfold JI zb3
 rw[yw,st,zY (uR c1)]
 simp only[set_cons_succ,set_cons_zero]
 rw[zY (uR e2)]
 simp only[set_cons_succ,set_cons_zero]
 rw[zY mk1,zY mk2,zY (uR (d:=.int 0) rfl)]
 simp only[set_cons_succ,set_cons_zero]
 rw[zY (uR (d:=.int 0) rfl)]
 show Z2 (zC _ _ (T10 ns X w (SL X [] 0) (SL (X.take 0) [] ((0:Nat):Int)) 0 0 none none none))=_
 rw[zY f7,zY f8,zY (W2 t9),zY (W2 t10)]
 cases z:X.isEmpty with
 |true=>
  rw[z] at t11
  have hx0:X.length=0:=by rw[List.isEmpty_iff] at z;rw[z];rfl
  rw[hx0] at hb
  have:n2=0:=by lia
  subst this
  rw[zR,zi5 t11,ZA (d:=.bl true) (op2 lk rfl rfl)]
  rfl
 |false=>
  rw[z] at t11
  have hx0:0<X.length:=by
   rcases Nat.eq_zero_or_pos X.length with y|y
   ·rw[List.length_eq_zero_iff.mp y] at z;cases z
   ·exact y
  have dl:=wZ ns 190 (m:=(X.length:Int)) (by lia)
  have dk:=wz ns 190 (X.length:Int) h63 (by decide) (by decide) (by lia)
  obtain⟨h,hh⟩:∃h:Nat,xR ns 190 (X.length:Int)=(h:Int):=⟨(xR ns 190 (X.length:Int)).toNat,by lia⟩
  rw[hh] at dl dk
  have e9:zv zr (za (ze 0) (za (eC (.int 190)) (za (yo yB (za (ze 1) zi)) zi))) τ=.ok (.int (h:Int)):=u3 v0 rfl (uN v1 (by rw[vc,length_map])) dk
  rw[zY (W2 t11),zY (uR e9),← hτ]
  obtain⟨L,hL,hLl⟩:=Lq X q
  have hid:∀n:Int,xt (SL X q n) [.int (h:Int)]=.ok (.non,SK X q ((LV X q).map (wo h)) n):=fun n=>by
   have hlen:∀m∈LV X q,m.length≤1000:=fun m hm=>by
    unfold LV at hm
    obtain⟨i,_,rfl⟩:=mem_map.mp hm
    have:=ux X (q.take i)
    lia
   unfold SL
   rw[hL] at hlen ⊢
   exact LF X q (List.range X.length) L n h (mem_range.mpr (by lia)) hlen (by lia)
  show Z2 (zC _ _ (T10 ns X w (SL X q nA) (SL X q (n2:Int)) X.length w.length b7 b8 (some (.val (.int (h:Int))))))=_
  rw[zY (vv (vk (n:=0) (o:=SL X q nA) rfl rfl (ZP (zq rfl)) (hid nA)))]
  show Z2 (zC _ _ (T10 ns X w (SK X q ((LV X q).map (wo h)) nA) (SL X q (n2:Int)) X.length w.length b7 b8 (some (.val (.int (h:Int))))))=_
  rw[zY (vv (vk (n:=0) (o:=SL X q (n2:Int)) rfl rfl (ZP (zq rfl)) (hid (n2:Int))))]
  show Z2 (zC _ _ (T10 ns X w (SK X q ((LV X q).map (wo h)) nA) (SK X q ((LV X q).map (wo h)) (n2:Int)) X.length w.length b7 b8 (some (.val (.int (h:Int))))))=_
  have wb:uS bkT bkB (T10 ns X w (SK X q ((LV X q).map (wo h)) nA) (SK X q ((LV X q).map (wo h)) (n2:Int)) X.length w.length b7 b8 (some (.val (.int (h:Int)))))=_:=Tj (ns:=ns) (w:=w) nA (n2:Int) hX3 q.length q ((LV X q).map (wo h)) 64 rfl (by lia) (by lia) (by rw[length_map,zl0]) (lv_ok X (by lia) q h) q128
  have hd:((LV X q).map (wo h)).headD []=wo h (List.range X.length):=by rw[hL];rfl
  rw[hd] at wb
  unfold bkT bkB at wb
  have ft:zN (SK X [] [wo h (List.range X.length)] nA) []=.ok (nts (wo h (List.range X.length))):=Xg X [] [] (wo h (List.range X.length)) nA
  have rg:=GF h X.length (τ:=T10 ns X w (SK X [] [wo h (List.range X.length)] nA) (SK X [] [wo h (List.range X.length)] (n2:Int)) X.length w.length b7 b8 (some (.val (.int (h:Int))))) (fl:=yo yB (za (ze 1) zi)) (uN (zq rfl) (by rw[vc,length_map])) (by lia) rfl
  have last:eOp eqD (yz 3 "Seeker" "fitting" zN zi) (fun τ=>((wG 1 [9] (vB (za (yo yB (za (ze 1) zi)) zi)) (gNm 0) (FD.tB (eOp neD (ze 0) (ze 1))) (ze 0)) τ).bind fun ds=>Rs.ok (D.lst ds)) (T10 ns X w (SK X [] [wo h (List.range X.length)] nA) (SK X [] [wo h (List.range X.length)] (n2:Int)) X.length w.length b7 b8 (some (.val (.int (h:Int)))))=.ok (.bl true):=op2 (xO (o:=SK X [] [wo h (List.range X.length)] nA) (ds:=[]) (uM rfl) rfl rfl ft) rg (zg0 _)
  rw[zY wb,ZA last]
  rfl
set_option maxHeartbeats 4000000
noncomputable def top(i:Nat):Stmt:=PySem.Challenge.pw_fewfind_k32_whole_seekers_alike.main.body.getD i (.Pass ⟨0,0,0,0⟩)
section
variable{P:Program}{w:World}{K:Frag}{mg:Str→Option Value}{base:Heap}
noncomputable abbrev x8:Stmt:=top 40
theorem Wy:zD ["_law_script", "_law_k"] ["_law_script", "_law_k"] (zh x8):=⟨rfl,rfl,rfl,by decide +kernel,rfl,by decide +kernel,by decide +kernel⟩
theorem WT{f:Addr}{fd:FuncData}(A_:ye K mg "_law_cell" x8 f fd)(z_len:mg "len" = none):DefOk P w K mg base "_law_cell" 1 2 ["_law_script", "_law_k"] wF:=by
 refine DefOk.mk (k:=0) A_ Wy rfl (fun _ _ _ _ _ _ us hl=>by obtain⟨_,_,rfl⟩:=lnz2 hl;rfl) (fun cdv A outer s H E hr=>?_) fun _ _ _ h=>h
 exact(zn (xa (zS (wn hr.units) (zb (pv 0)) (um zk) (z9 _)) (zp (zV (zx ww zj (zb (pv 1))))) z0) (zp (zV (zx zH (yb yJ (zb (pv 0)) (zx ji (zb (pv 1)) (zJ yU rfl z_len PySem.boot_len (zc (zb (pv 0)) zk)))) (zx ww zj (zx j5 (zb (pv 1)) (zJ yU rfl z_len PySem.boot_len (zc (zb (pv 0)) zk))))))))
noncomputable abbrev xH:Stmt:=top 41
theorem sc__law_drawn:zD ["_law_script", "_law_k", "_law_many", "_law_cell_here"] ["_law_script", "_law_k", "_law_many"] (zh xH):=⟨rfl,rfl,rfl,by decide +kernel,rfl,by decide +kernel,by decide +kernel⟩
theorem XE{f:Addr}{fd:FuncData}(A_:ye K mg "_law_drawn" xH f fd)(h__law_cell:DefOk P w K mg base "_law_cell" 1 2 ["_law_script", "_law_k"] wF):DefOk P w K mg base "_law_drawn" 2 3 ["_law_script", "_law_k", "_law_many"] zr:=by
 refine DefOk.mk (k:=1) A_ sc__law_drawn rfl (fun _ _ _ _ _ _ us hl=>by obtain⟨_,_,_,rfl⟩:=lnz3 hl;rfl) (fun cdv A outer s H E hr=>?_) fun _ _ _ h=>h
 exact(zn (z6 (i:=3) sc__law_drawn.nd rfl (Or.inl rfl) (zx ji (zx zH (zx ww (zx ji (zL h__law_cell (hr.mono (by decide)) (zc (zb (pv 0)) (zc (zb (pv 1)) zk)) (zg (zg zt))) zj) zj) (zx ww zj (zx zH (zb (pv 1)) zj))) zj)) (zn (z6 (i:=3) sc__law_drawn.nd rfl (Or.inl rfl) (zx ji (zx zH (zx ww (zb (pv 3)) (zb (pv 3))) (zx j5 (zb (pv 3)) zj)) zj)) (zp (zV (zx ji (zx j5 (zx ji (zx zH (zx ww (zb (pv 3)) (zb (pv 3))) (zx j5 (zb (pv 3)) zj)) zj) zj) (zb (pv 2)))))))
noncomputable abbrev x0:Stmt:=top 42
theorem sc__law_name:zD ["_law_script", "_law_at", "_law_found", "_law_k"] ["_law_script", "_law_at"] (zh x0):=⟨rfl,rfl,rfl,by decide +kernel,rfl,by decide +kernel,by decide +kernel⟩
theorem WR{f:Addr}{fd:FuncData}(A_:ye K mg "_law_name" x0 f fd)(h__law_drawn:DefOk P w K mg base "_law_drawn" 2 3 ["_law_script", "_law_k", "_law_many"] zr)(z_range:mg "range" = none):DefOk P w K mg base "_law_name" 3 2 ["_law_script", "_law_at"] xB:=by
 refine DefOk.mk (k:=2) A_ sc__law_name rfl (fun _ _ _ _ _ _ us hl=>by obtain⟨_,_,rfl⟩:=lnz2 hl;rfl) (fun cdv A outer s H E hr=>?_) fun _ _ _ h=>h
 exact(zn (z6 (i:=2) sc__law_name.nd rfl (Or.inl rfl) vi) (zn (vh PassesOwn.never rfl (wB rfl z_range (zc (zx zH zj (zL h__law_drawn (hr.mono (by decide)) (zc (zb (pv 0)) (zc (zb (pv 1)) (zc zj zk))) (zg (zg (zg zt))))) zk)) (xb sc__law_name.nd rfl (Or.inl rfl)) (zp (z6 (i:=2) sc__law_name.nd rfl (Or.inl rfl) (zx zH (zb (pv 2)) (yb yJ vi (zL h__law_drawn (hr.mono (by decide)) (zc (zb (pv 0)) (zc (zx zH (zx zH (zb (pv 1)) zj) (zb (pv 3))) (zc zj zk))) (zg (zg (zg zt))))))))) (zp (zV (zb (pv 2))))))
noncomputable abbrev xG:Stmt:=top 44
theorem sc__law_names:zD ["_law_script", "_law_at", "_law_most", "_law_found"] ["_law_script", "_law_at", "_law_most"] (zh xG):=⟨rfl,rfl,rfl,by decide +kernel,rfl,by decide +kernel,by decide +kernel⟩
theorem XD{f:Addr}{fd:FuncData}(A_:ye K mg "_law_names" xG f fd)(h__law_drawn:DefOk P w K mg base "_law_drawn" 2 3 ["_law_script", "_law_k", "_law_many"] zr)(h__law_name:DefOk P w K mg base "_law_name" 3 2 ["_law_script", "_law_at"] xB)(z_len:mg "len" = none)(z_range:mg "range" = none):DefOk P w K mg base "_law_names" 4 3 ["_law_script", "_law_at", "_law_most"] xL:=by
 refine DefOk.mk (k:=3) A_ sc__law_names rfl (fun _ _ _ _ _ _ us hl=>by obtain⟨_,_,_,rfl⟩:=lnz3 hl;rfl) (fun cdv A outer s H E hr=>?_) fun _ _ _ h=>h
 exact(zn (Uz (i:=3) sc__law_names.nd rfl rfl rfl (tn:=["_law_k"]) (fr:=["_law_script", "_law_at"]) (idx:=[0,1]) rfl rfl ⟨rfl,rfl,⟨rfl,rfl,trivial⟩⟩ (vp 0) (PDI.h (wB rfl z_range (zc (zL h__law_drawn (hr.mono (by decide)) (zc (zb (pv 0)) (zc (zb (pv 1)) (zc (zx zH (zb (pv 2)) zj) zk))) (zg (zg (zg zt)))) zk))) (fun s H C fp=>(xb (show List.Nodup (["_law_k", "_law_script", "_law_at"]:List Str) by decide +kernel) rfl (Or.inl rfl))) (fun s H C fp=>Vz) (fun s H C fp=>(zL h__law_name (hr.mono (by decide)) (zc (zb (pv 1)) (zc (zx zH (zx zH (zb (pv 2)) zj) (zx ww zj (zb (pv 0)))) zk)) (zg (zg zt))))) (zn (xa (ZV (Yn (zS WP (YO (pv 3) rfl z_len) zj (z9 _)) (jY (zS (wn hr.units) (zL h__law_drawn (hr.mono (by decide)) (zc (zb (pv 0)) (zc (zx zH (zb (pv 1)) zj) (zc zj zk))) (zg (zg (zg zt)))) zj (z9 _))))) (zp (TZ (pv 3) zj (T6 (pv 3) (wj zj)))) z0) (zp (jZ (pv 3)))))
noncomputable abbrev x6:Stmt:=top 43
theorem Wx:zD ["_law_sign"] ["_law_sign"] (zh x6):=⟨rfl,rfl,rfl,by decide +kernel,rfl,by decide +kernel,by decide +kernel⟩
theorem WS{f:Addr}{fd:FuncData}(A_:ye K mg "_law_mark" x6 f fd):DefOk P w K mg base "_law_mark" 1 1 ["_law_sign"] xC:=by
 refine DefOk.mk (k:=0) A_ Wx rfl (fun _ _ _ _ _ _ us hl=>by obtain⟨_,rfl⟩:=lnz1 hl;rfl) (fun cdv A outer s H E hr=>?_) fun _ _ _ h=>h
 exact(zp (zV (wY (uq (wX hr)) (zb (pv 0)) vi (by with_unfolding_all rfl))))
noncomputable abbrev xF:Stmt:=top 45
theorem sc__law_query:zD ["_law_script", "_law_at", "_law_name_here", "_law_most", "_law_found", "_law_place", "_law_k", "_law_sign"] ["_law_script", "_law_at", "_law_name_here", "_law_most"] (zh xF):=⟨rfl,rfl,rfl,by decide +kernel,rfl,by decide +kernel,by decide +kernel⟩
theorem XC{f:Addr}{fd:FuncData}(A_:ye K mg "_law_query" xF f fd)(h__law_drawn:DefOk P w K mg base "_law_drawn" 2 3 ["_law_script", "_law_k", "_law_many"] zr)(h__law_mark:DefOk P w K mg base "_law_mark" 1 1 ["_law_sign"] xC)(z_range:mg "range" = none)(z_len:mg "len" = none)(z_min:mg "min" = none):DefOk P w K mg base "_law_query" 3 4 ["_law_script", "_law_at", "_law_name_here", "_law_most"] xK:=by
 refine DefOk.mk (k:=2) A_ sc__law_query rfl (fun _ _ _ _ _ _ us hl=>by obtain⟨_,_,_,_,rfl⟩:=lnz4 hl;rfl) (fun cdv A outer s H E hr=>?_) fun _ _ _ h=>h
 exact(zn (z6 (i:=4) sc__law_query.nd rfl (Or.inl rfl) vi) (zn (z6 (i:=5) sc__law_query.nd rfl (Or.inl rfl) zj) (zn (vh PassesOwn.never rfl (wB rfl z_range (zc (zL h__law_drawn (hr.mono (by decide)) (zc (zb (pv 0)) (zc (zb (pv 1)) (zc (zx zH (zb (pv 3)) zj) zk))) (zg (zg (zg zt)))) zk)) (xb sc__law_query.nd rfl (Or.inl rfl)) (zn (z6 (i:=5) sc__law_query.nd rfl (Or.inl rfl) (zJ (W9 rfl) rfl z_min boot_min (zc (zx j3 (zJ yU rfl z_len PySem.boot_len (zc (zb (pv 2)) zk)) zj) (zc (zx zH (zb (pv 5)) (zL h__law_drawn (hr.mono (by decide)) (zc (zb (pv 0)) (zc (zx zH (zx zH (zb (pv 1)) zj) (zx ww zj (zb (pv 6)))) (zc zj zk))) (zg (zg (zg zt))))) zk)))) (zn (z6 (i:=7) sc__law_query.nd rfl (Or.inl rfl) (QE (WN (UD (zb (pv 2)) (uU (zb (pv 5))) (uU (zx zH (zb (pv 5)) zj))) (Yo vi)))) (zn (z6 (i:=5) sc__law_query.nd rfl (Or.inl rfl) (zx zH (zb (pv 5)) zj)) (zn (xa (zS (wn hr.units) (zL h__law_drawn (hr.mono (by decide)) (zc (zb (pv 0)) (zc (zx zH (zx zH (zb (pv 1)) zj) (zx ww zj (zb (pv 6)))) (zc zj zk))) (zg (zg (zg zt)))) zj (z9 _)) (zp (z6 (i:=7) sc__law_query.nd rfl (Or.inl rfl) (yb yJ vi (zL h__law_drawn (hr.mono (by decide)) (zc (zb (pv 0)) (zc (zx zH (zx zH (zb (pv 1)) zj) (zx ww zj (zb (pv 6)))) (zc zj zk))) (zg (zg (zg zt))))))) z0) (zp (xa (WJ (uk (zL h__law_mark (hr.mono (by decide)) (zc (zb (pv 7)) zk) (zg zt)))) (zp (z6 (i:=4) sc__law_query.nd rfl (Or.inl rfl) (zx zH (zb (pv 4)) (zb (pv 7))))) z0))))))) (zp (zV (zb (pv 4)))))))
noncomputable abbrev yM:Stmt:=vn (top 38) 0
theorem jz:zD ["self", "names"] ["self", "names"] (zh yM):=⟨rfl,rfl,rfl,by decide +kernel,rfl,by decide +kernel,by decide +kernel⟩
theorem jE{C_Seeker:Addr}(A_Seeker:ClsAt K mg "Seeker" C_Seeker)(n_Seeker_looks:NoAttr K C_Seeker "looks")(n_Seeker_levels:NoAttr K C_Seeker "levels")(n_Seeker_query:NoAttr K C_Seeker "query")(n_Seeker_names:NoAttr K C_Seeker "names")(z_len:mg "len" = none)(z_list:mg "list" = none)(z_range:mg "range" = none){f:Addr}{fd:FuncData}(M_:Mk K C_Seeker f)(D_:Fun K "__init__" "Seeker.__init__" yM f fd):ClsM P w K mg base "Seeker" 1 1 ["self", "names"] z8:=by
 refine ClsM.mk (k:=0) A_Seeker M_ D_ jz rfl (fun _ _ _ _ _ _ us hl=>by obtain⟨_,_,rfl⟩:=lnz2 hl;rfl) (fun cdv A outer s H E hr=>?_)
 exact(zn (T1 (pv 0) A_Seeker.ns A_Seeker.cls n_Seeker_names (Qy rfl z_list (zb (pv 1))) (by decide +kernel)) (zn (WK (pv 0) A_Seeker.ns A_Seeker.cls n_Seeker_query vi (by decide +kernel)) (zn (GW (pv 0) A_Seeker.ns A_Seeker.cls n_Seeker_levels (Yd rfl rfl z_list rfl z_range (zc (zJ yU rfl z_len PySem.boot_len (zc (zb (pv 1)) zk)) zk)) (by decide +kernel)) (zp (WK (pv 0) A_Seeker.ns A_Seeker.cls n_Seeker_looks zj (by decide +kernel))))))
noncomputable abbrev wS:Stmt:=top 37
theorem Uu:zD ["number", "level"] ["number", "level"] (zh wS):=⟨rfl,rfl,rfl,by decide +kernel,rfl,by decide +kernel,by decide +kernel⟩
theorem UJ{f:Addr}{fd:FuncData}(A_:ye K mg "without" wS f fd):DefN P w K mg base "without" 1 2 ["number", "level"] xN:=by
 refine DefN.mk (k:=0) A_ Uu rfl (fun _ _ _ _ _ _ us hl=>by obtain⟨_,_,rfl⟩:=lnz2 hl;rfl) (fun cdv A outer s H E hr=>?_)
 exact(zp (VB (v8 (tn:=["kept"]) (fr:=["number"]) (idx:=[0]) rfl rfl ⟨rfl,rfl,trivial⟩ (vp 0) (PDI.h (j0 (zb (pv 1)))) (fun s H C fp=>(xb (show List.Nodup (["kept", "number"]:List Str) by decide +kernel) rfl (Or.inl rfl))) (fun s H C fp=>(uT (zS (up hr.units) (zb (pv 0)) (zb (pv 1)) (z9 _)))) (fun s H C fp=>(zb (pv 0))))))
noncomputable abbrev xS:Stmt:=vn (top 38) 7
theorem YB:zD ["self", "number"] ["self", "number"] (zh xS):=⟨rfl,rfl,rfl,by decide +kernel,rfl,by decide +kernel,by decide +kernel⟩
theorem YV{C_Seeker:Addr}(A_Seeker:ClsAt K mg "Seeker" C_Seeker)(n_Seeker_levels:NoAttr K C_Seeker "levels")(d_without:DefN P w K mg base "without" 1 2 ["number", "level"] xN){f:Addr}{fd:FuncData}(M_:jN K C_Seeker "hide" f)(D_:Fun K "hide" "Seeker.hide" xS f fd):MetM P w K mg base "Seeker" "hide" 2 1 ["self", "number"] xt:=by
 refine MetM.mk (k:=1) A_Seeker M_ D_ YB rfl (fun _ _ _ _ _ _ us hl=>by obtain⟨_,_,rfl⟩:=lnz2 hl;rfl) (fun cdv A outer s H E hr=>?_)
 exact(zn (xa (GU (i:=0) (c := "Seeker") (QF (wX hr)) (UA (zb (pv 1))) (Jz (pv 0) A_Seeker.ns A_Seeker.cls n_Seeker_levels zj (by decide +kernel)) (by with_unfolding_all rfl)) (zp jb) z0) (zp (GX (kn:=1) (lv := "level") (nm := "number") (pv 0) (pv 0) A_Seeker.ns A_Seeker.cls n_Seeker_levels rfl rfl ⟨rfl,rfl,trivial⟩ (fun s H C fp=>Yk (show List.Nodup (["level", "number"]:List Str) by decide +kernel) rfl (Or.inl rfl)) (fun s H C fp=>GS d_without (hr.mono (by decide)) (pv 1) (pv 0)) (by decide +kernel))))
noncomputable abbrev yO:Stmt:=top 10
theorem Zy:zD ["sign"] ["sign"] (zh yO):=⟨rfl,rfl,rfl,by decide +kernel,rfl,by decide +kernel,by decide +kernel⟩
theorem ZE{f:Addr}{fd:FuncData}(A_:ye K mg "is_query_sign" yO f fd){t_FIGURES:Tok}(g_FIGURES:mg "FIGURES" = some (.str "0123456789" t_FIGURES)){t_GREAT:Tok}(g_GREAT:mg "GREAT" = some (.str "ABCDEFGHIJKLMNOPQRSTUVWXYZ" t_GREAT)){t_SMALL:Tok}(g_SMALL:mg "SMALL" = some (.str "abcdefghijklmnopqrstuvwxyz" t_SMALL)):DefOk P w K mg base "is_query_sign" 1 1 ["sign"] yQ:=by
 refine DefOk.mk (k:=0) A_ Zy rfl (fun _ _ _ _ _ _ us hl=>by obtain⟨_,rfl⟩:=lnz1 hl;rfl) (fun cdv A outer s H E hr=>?_) fun _ _ _ h=>h
 exact(zp (zV (WN (wY (uq (wX hr)) (zb (pv 0)) (vH rfl g_SMALL) (by with_unfolding_all rfl)) (WN (wY (uq (wX hr)) (zb (pv 0)) (vH rfl g_GREAT) (by with_unfolding_all rfl)) (Yo (wY (uq (wX hr)) (zb (pv 0)) (vH rfl g_FIGURES) (by with_unfolding_all rfl)))))))
noncomputable abbrev uf:Stmt:=top 11
theorem GA:zD ["sign", "other"] ["sign", "other"] (zh uf):=⟨rfl,rfl,rfl,by decide +kernel,rfl,by decide +kernel,by decide +kernel⟩
theorem Md{f:Addr}{fd:FuncData}(A_:ye K mg "meets" uf f fd){t_SMALL:Tok}(g_SMALL:mg "SMALL" = some (.str "abcdefghijklmnopqrstuvwxyz" t_SMALL)):DefOk P w K mg base "meets" 1 2 ["sign", "other"] xW:=by
 refine DefOk.mk (k:=0) A_ GA rfl (fun _ _ _ _ _ _ us hl=>by obtain⟨_,_,rfl⟩:=lnz2 hl;rfl) (fun cdv A outer s H E hr=>?_) fun _ _ _ h=>h
 exact(zp (zV (WN (wY (wn hr.units) (zb (pv 0)) (zb (pv 1)) (z9 _)) (Yo (T8 (wY (uq (wX hr)) (zb (pv 0)) (vH rfl g_SMALL) (by with_unfolding_all rfl)) (Yo (wY (wn hr.units) (QC (zb (pv 0))) (zb (pv 1)) (z9 _))))))))
noncomputable abbrev yv:Stmt:=top 12
theorem sc_earliest_places:zD ["query", "name", "places", "place"] ["query", "name"] (zh yv):=⟨rfl,rfl,rfl,by decide +kernel,rfl,by decide +kernel,by decide +kernel⟩
theorem jD{f:Addr}{fd:FuncData}(A_:ye K mg "earliest_places" yv f fd)(h_meets:DefOk P w K mg base "meets" 1 2 ["sign", "other"] xW)(z_len:mg "len" = none)(z_range:mg "range" = none):DefOk P w K mg base "earliest_places" 2 2 ["query", "name"] yN:=by
 refine DefOk.mk (k:=1) A_ sc_earliest_places rfl (fun _ _ _ _ _ _ us hl=>by obtain⟨_,_,rfl⟩:=lnz2 hl;rfl) (fun cdv A outer s H E hr=>?_) fun _ _ _ h=>h
 exact(zn (YL (i:=2) sc_earliest_places.nd rfl (Or.inl rfl) (WM zk)) (zn (vh PassesOwn.never rfl (wB rfl z_range (zc (zJ yU rfl z_len PySem.boot_len (zc (zb (pv 1)) zk)) zk)) (xb sc_earliest_places.nd rfl (Or.inl rfl)) (zp (xa (ZV (Yn (zS UG (YO (pv 2) rfl z_len) (zJ yU rfl z_len PySem.boot_len (zc (zb (pv 0)) zk)) (z9 _)) (jY (uk (zL h_meets (hr.mono (by decide)) (zc (yb yJ (zb (pv 0)) (YO (pv 2) rfl z_len)) (zc (yb yJ (zb (pv 1)) (zb (pv 3))) zk)) (zg (zg zt))))))) (zp (WL (pv 2) (zb (pv 3)))) z0))) (zp (jZ (pv 2)))))
noncomputable abbrev jA:Stmt:=top 13
theorem Tx:zD ["query", "name"] ["query", "name"] (zh jA):=⟨rfl,rfl,rfl,by decide +kernel,rfl,by decide +kernel,by decide +kernel⟩
theorem Lf{f:Addr}{fd:FuncData}(A_:ye K mg "fits" jA f fd)(h_earliest_places:DefOk P w K mg base "earliest_places" 2 2 ["query", "name"] yN)(z_len:mg "len" = none):DefOk P w K mg base "fits" 3 2 ["query", "name"] wU:=by
 refine DefOk.mk (k:=2) A_ Tx rfl (fun _ _ _ _ _ _ us hl=>by obtain⟨_,_,rfl⟩:=lnz2 hl;rfl) (fun cdv A outer s H E hr=>?_) fun _ _ _ h=>h
 exact(zp (zV (wY (wn hr.units) (zJ yU rfl z_len PySem.boot_len (zc (zL h_earliest_places (hr.mono (by decide)) (zc (zb (pv 0)) (zc (zb (pv 1)) zk)) (zg (zg zt))) zk)) (zJ yU rfl z_len PySem.boot_len (zc (zb (pv 0)) zk)) (z9 _))))
noncomputable abbrev xj:Stmt:=vn (top 38) 1
theorem sc_Seeker_letter:zD ["self", "sign", "ahead"] ["self", "sign"] (zh xj):=⟨rfl,rfl,rfl,by decide +kernel,rfl,by decide +kernel,by decide +kernel⟩
theorem ZH{C_Seeker:Addr}(A_Seeker:ClsAt K mg "Seeker" C_Seeker)(n_Seeker_names:NoAttr K C_Seeker "names")(n_Seeker_query:NoAttr K C_Seeker "query")(n_Seeker_levels:NoAttr K C_Seeker "levels")(n_Seeker_looks:NoAttr K C_Seeker "looks")(h_fits:DefOk P w K mg base "fits" 3 2 ["query", "name"] wU)(h_is_query_sign:DefOk P w K mg base "is_query_sign" 1 1 ["sign"] yQ){t_LONGEST_QUERY:Tok}(g_LONGEST_QUERY:mg "LONGEST_QUERY" = some (.int 8 t_LONGEST_QUERY))(z_len:mg "len" = none){f:Addr}{fd:FuncData}(M_:jN K C_Seeker "letter" f)(D_:Fun K "letter" "Seeker.letter" xj f fd):MetM P w K mg base "Seeker" "letter" 4 1 ["self", "sign"] yn:=by
 refine MetM.mk (k:=3) A_Seeker M_ D_ sc_Seeker_letter rfl (fun _ _ _ _ _ _ us hl=>by obtain⟨_,_,rfl⟩:=lnz2 hl;rfl) (fun cdv A outer s H E hr=>?_)
 exact(zn (xa (ZV (YK (zS (up hr.units) (zJ yU rfl z_len PySem.boot_len (zc (zb (pv 1)) zk)) zj (z9 _)) (Ym (WJ (uk (zL h_is_query_sign (hr.mono (by decide)) (zc (zb (pv 1)) zk) (zg zt))))))) (zp jb) z0) (zn (xa (zS ze7 (zJ yU rfl z_len PySem.boot_len (zc (vR (pv 0) A_Seeker.ns A_Seeker.cls n_Seeker_query (by decide +kernel)) zk)) (vj rfl g_LONGEST_QUERY) (z9 _)) (zp jb) z0) (zn (WK (pv 0) A_Seeker.ns A_Seeker.cls n_Seeker_query (zx zH (vR (pv 0) A_Seeker.ns A_Seeker.cls n_Seeker_query (by decide +kernel)) (zb (pv 1))) (by decide +kernel)) (VA (i:=0) (k:=2) sc_Seeker_letter.nd rfl (Or.inl rfl) (by decide) (by decide +kernel) (pv 0) (pv 0) (pv 0) (pv 2) A_Seeker.ns A_Seeker.cls n_Seeker_levels n_Seeker_looks (wj zj) (Gr (i:=0) (QA (tn:=["number"]) (fr:=["self"]) (idx:=[0]) rfl rfl ⟨rfl,rfl,trivial⟩ (vp 0) (T5 (pv 2) (by decide +kernel)) (fun s H C fp=>(xb (show List.Nodup (["number", "self"]:List Str) by decide +kernel) rfl (Or.inl rfl))) (fun s H C fp=>(uT (uk (zL h_fits (hr.mono (by decide)) (zc (vR (pv 1) A_Seeker.ns A_Seeker.cls n_Seeker_query (by decide +kernel)) (zc (T7 (pv 1) A_Seeker.ns A_Seeker.cls n_Seeker_names (zb (pv 0)) (by decide +kernel)) zk)) (zg (zg zt)))))) (fun s H C fp=>(zb (pv 0))))) (zp (YM (VE (pv 0) A_Seeker.ns A_Seeker.cls n_Seeker_levels (wj zj) rfl z_len (by decide +kernel)))) rfl z_len (by decide +kernel) (by decide +kernel)))))
noncomputable abbrev wg:Stmt:=vn (top 38) 6
theorem sc_Seeker_add:zD ["self", "name", "number", "length"] ["self", "name"] (zh wg):=⟨rfl,rfl,rfl,by decide +kernel,rfl,by decide +kernel,by decide +kernel⟩
theorem XG{C_Seeker:Addr}(A_Seeker:ClsAt K mg "Seeker" C_Seeker)(n_Seeker_query:NoAttr K C_Seeker "query")(n_Seeker_levels:NoAttr K C_Seeker "levels")(n_Seeker_looks:NoAttr K C_Seeker "looks")(n_Seeker_names:NoAttr K C_Seeker "names")(h_fits:DefOk P w K mg base "fits" 3 2 ["query", "name"] wU)(z_len:mg "len" = none)(z_range:mg "range" = none){f:Addr}{fd:FuncData}(M_:jN K C_Seeker "add" f)(D_:Fun K "add" "Seeker.add" wg f fd):MetM P w K mg base "Seeker" "add" 4 1 ["self", "name"] xM:=by
 refine MetM.mk (k:=3) A_Seeker M_ D_ sc_Seeker_add rfl (fun _ _ _ _ _ _ us hl=>by obtain⟨_,_,rfl⟩:=lnz2 hl;rfl) (fun cdv A outer s H E hr=>?_)
 exact(zn (z6 (i:=2) sc_Seeker_add.nd rfl (Or.inl rfl) (G2 (pv 0) A_Seeker.ns A_Seeker.cls n_Seeker_names rfl z_len (by decide +kernel))) (zn (GZ (pv 0) A_Seeker.ns A_Seeker.cls n_Seeker_names (zb (pv 1)) (by decide +kernel)) (zn (VD (pv 0) A_Seeker.ns A_Seeker.cls n_Seeker_levels zj (zb (pv 2)) (by decide +kernel)) (zn (vh PassesOwn.never rfl (UC rfl z_range (zc zj (zc (zx zH (zJ yU rfl z_len PySem.boot_len (zc (vR (pv 0) A_Seeker.ns A_Seeker.cls n_Seeker_query (by decide +kernel)) zk)) zj) zk))) (xb sc_Seeker_add.nd rfl (Or.inl rfl)) (zn (GY (pv 0) A_Seeker.ns A_Seeker.cls n_Seeker_looks zj (by decide +kernel)) (zn (xa (WJ (uk (zL h_fits (hr.mono (by decide)) (zc (UD (vR (pv 0) A_Seeker.ns A_Seeker.cls n_Seeker_query (by decide +kernel)) YN (uU (zb (pv 3)))) (zc (zb (pv 1)) zk)) (zg (zg zt))))) (zp Qv) z0) (zp (VD (pv 0) A_Seeker.ns A_Seeker.cls n_Seeker_levels (zb (pv 3)) (zb (pv 2)) (by decide +kernel)))))) (zp (YM (zb (pv 2))))))))
noncomputable abbrev xi:Stmt:=vn (top 38) 8
theorem Zz:zD ["self"] ["self"] (zh xi):=⟨rfl,rfl,rfl,by decide +kernel,rfl,by decide +kernel,by decide +kernel⟩
theorem ZG{C_Seeker:Addr}(A_Seeker:ClsAt K mg "Seeker" C_Seeker)(n_Seeker_looks:NoAttr K C_Seeker "looks"){f:Addr}{fd:FuncData}(M_:jN K C_Seeker "looked" f)(D_:Fun K "looked" "Seeker.looked" xi f fd):MetR P w K mg base "Seeker" "looked" 1 0 ["self"] yC:=by
 refine MetR.mk (k:=0) A_Seeker M_ D_ Zz rfl (fun _ _ _ _ _ _ us hl=>by obtain⟨_,rfl⟩:=lnz1 hl;rfl) (fun cdv A outer s H E hr=>?_)
 exact(zp (zV (vR (pv 0) A_Seeker.ns A_Seeker.cls n_Seeker_looks (by decide +kernel))))
noncomputable abbrev xw:Stmt:=vn (top 38) 3
theorem Yc:zD ["self"] ["self"] (zh xw):=⟨rfl,rfl,rfl,by decide +kernel,rfl,by decide +kernel,by decide +kernel⟩
theorem Yh{C_Seeker:Addr}(A_Seeker:ClsAt K mg "Seeker" C_Seeker)(n_Seeker_query:NoAttr K C_Seeker "query"){f:Addr}{fd:FuncData}(M_:jN K C_Seeker "typed" f)(D_:Fun K "typed" "Seeker.typed" xw f fd):MetR P w K mg base "Seeker" "typed" 1 0 ["self"] yk:=by
 refine MetR.mk (k:=0) A_Seeker M_ D_ Yc rfl (fun _ _ _ _ _ _ us hl=>by obtain⟨_,rfl⟩:=lnz1 hl;rfl) (fun cdv A outer s H E hr=>?_)
 exact(zp (zV (vR (pv 0) A_Seeker.ns A_Seeker.cls n_Seeker_query (by decide +kernel))))
noncomputable abbrev yY:Stmt:=vn (top 38) 4
theorem jS:zD ["self"] ["self"] (zh yY):=⟨rfl,rfl,rfl,by decide +kernel,rfl,by decide +kernel,by decide +kernel⟩
theorem j6{C_Seeker:Addr}(A_Seeker:ClsAt K mg "Seeker" C_Seeker)(n_Seeker_levels:NoAttr K C_Seeker "levels")(z_list:mg "list" = none){f:Addr}{fd:FuncData}(M_:jN K C_Seeker "fitting" f)(D_:Fun K "fitting" "Seeker.fitting" yY f fd):MetR P w K mg base "Seeker" "fitting" 1 0 ["self"] zN:=by
 refine MetR.mk (k:=0) A_Seeker M_ D_ jS rfl (fun _ _ _ _ _ _ us hl=>by obtain⟨_,rfl⟩:=lnz1 hl;rfl) (fun cdv A outer s H E hr=>?_)
 exact(zp (zV (ZC (Qz (pv 0) A_Seeker.ns A_Seeker.cls n_Seeker_levels (wj zj) rfl z_list (by decide +kernel)))))
noncomputable abbrev xT:Stmt:=vn (top 38) 2
theorem YC:zD ["self"] ["self"] (zh xT):=⟨rfl,rfl,rfl,by decide +kernel,rfl,by decide +kernel,by decide +kernel⟩
theorem YW{C_Seeker:Addr}(A_Seeker:ClsAt K mg "Seeker" C_Seeker)(n_Seeker_levels:NoAttr K C_Seeker "levels")(n_Seeker_query:NoAttr K C_Seeker "query")(z_len:mg "len" = none){f:Addr}{fd:FuncData}(M_:jN K C_Seeker "back" f)(D_:Fun K "back" "Seeker.back" xT f fd):MetM P w K mg base "Seeker" "back" 1 0 ["self"] zQ:=by
 refine MetM.mk (k:=0) A_Seeker M_ D_ YC rfl (fun _ _ _ _ _ _ us hl=>by obtain⟨_,rfl⟩:=lnz1 hl;rfl) (fun cdv A outer s H E hr=>?_)
 exact(zn (xa (zS (wn hr.units) (zJ yU rfl z_len PySem.boot_len (zc (vR (pv 0) A_Seeker.ns A_Seeker.cls n_Seeker_query (by decide +kernel)) zk)) zj (z9 _)) (zp jb) z0) (zn (WK (pv 0) A_Seeker.ns A_Seeker.cls n_Seeker_query (UD (vR (pv 0) A_Seeker.ns A_Seeker.cls n_Seeker_query (by decide +kernel)) YN (uU (wj zj))) (by decide +kernel)) (zn (GV (pv 0) A_Seeker.ns A_Seeker.cls n_Seeker_levels (by decide +kernel)) (zp (YM (VE (pv 0) A_Seeker.ns A_Seeker.cls n_Seeker_levels (wj zj) rfl z_len (by decide +kernel)))))))
noncomputable abbrev wT:Stmt:=top 34
theorem Vs:zD ["names", "rows"] ["names", "rows"] (zh wT):=⟨rfl,rfl,rfl,by decide +kernel,rfl,by decide +kernel,by decide +kernel⟩
theorem VI{f c:Addr}(A_:Jb K mg "in_order" wT f c 145)(bm:BM mg base)(z_len:mg "len" = none)(z_sorted:mg "sorted" = none):DefOk P w K mg base "in_order" 4 2 ["names", "rows"] wd:=by
 refine DefOk.mkL (k:=3) A_ Vs rfl (fun _ _ _ _ _ _ us hl=>by obtain⟨_,_,rfl⟩:=lnz2 hl;rfl) (fun A outer s H E hr=>?_)
 exact(zp (zV (QD (P:=145) (p := "row") (fr:=["names"]) (idx:=[0]) rfl z_sorted PyProof.Rows.boot_sorted (zb (pv 1)) (hr.mono (by decide)) (TabsU.of (by decide)) bm rfl A_.tab (.head _) rfl ⟨rfl,rfl,trivial⟩ rfl rfl rfl (fun _ _ _ _ _=>rfl) (fun s H f cd=>(ul (zc (wj (yb yJ (zb (pv 0)) zj)) (zc (zJ yU rfl z_len PySem.boot_len (zc (yb yJ (zb (pv 1)) (yb yJ (zb (pv 0)) zj)) zk)) (zc (yb yJ (zb (pv 0)) zj) zk))))))))
noncomputable abbrev xE:Stmt:=top 35
theorem Xw:zD ["names", "rows", "many"] ["names", "rows", "many"] (zh xE):=⟨rfl,rfl,rfl,by decide +kernel,rfl,by decide +kernel,by decide +kernel⟩
theorem XB{f:Addr}{fd:FuncData}(A_:ye K mg "first_rows" xE f fd)(h_in_order:DefOk P w K mg base "in_order" 4 2 ["names", "rows"] wd)(z_max:mg "max" = none):DefN P w K mg base "first_rows" 5 3 ["names", "rows", "many"] yW:=by
 refine DefN.mk (k:=4) A_ Xw rfl (fun _ _ _ _ _ _ us hl=>by obtain⟨_,_,_,rfl⟩:=lnz3 hl;rfl) (fun cdv A outer s H E hr=>?_)
 exact(zp (VB (ze3 (zL h_in_order (hr.mono (by decide)) (zc (zb (pv 0)) (zc (zb (pv 1)) zk)) (zg (zg zt))) YN (uU (zJ (LP rfl) rfl z_max boot_max (zc (zb (pv 2)) (zc zj zk)))))))
noncomputable abbrev yq:Stmt:=top 23
theorem sc_beginning_points:zD ["name", "place", "ahead"] ["name", "place"] (zh yq):=⟨rfl,rfl,rfl,by decide +kernel,rfl,by decide +kernel,by decide +kernel⟩
theorem jn{f:Addr}{fd:FuncData}(A_:ye K mg "beginning_points" yq f fd){t_FIGURES:Tok}(g_FIGURES:mg "FIGURES" = some (.str "0123456789" t_FIGURES)){t_SMALL:Tok}(g_SMALL:mg "SMALL" = some (.str "abcdefghijklmnopqrstuvwxyz" t_SMALL)){t_GREAT:Tok}(g_GREAT:mg "GREAT" = some (.str "ABCDEFGHIJKLMNOPQRSTUVWXYZ" t_GREAT)){t_AT_GREAT:Tok}(g_AT_GREAT:mg "AT_GREAT" = some (.int 5 t_AT_GREAT)){t_MARKS:Tok}(g_MARKS:mg "MARKS" = some (.str "_-./" t_MARKS)){t_BEHIND_MARK:Tok}(g_BEHIND_MARK:mg "BEHIND_MARK" = some (.int 6 t_BEHIND_MARK)){t_AT_BEGINNING:Tok}(g_AT_BEGINNING:mg "AT_BEGINNING" = some (.int 8 t_AT_BEGINNING)):DefOk P w K mg base "beginning_points" 1 2 ["name", "place"] yF:=by
 refine DefOk.mk (k:=0) A_ sc_beginning_points rfl (fun _ _ _ _ _ _ us hl=>by obtain⟨_,_,rfl⟩:=lnz2 hl;rfl) (fun cdv A outer s H E hr=>?_) fun _ _ _ h=>h
 exact(zn (xa (zS (wn hr.units) (zb (pv 1)) zj (z9 _)) (zp (zV (vj rfl g_AT_BEGINNING))) z0) (zn (z6 (i:=2) sc_beginning_points.nd rfl (Or.inl rfl) (yb yJ (zb (pv 0)) (zx j3 (zb (pv 1)) zj))) (zn (xa (zS (uq (wX hr)) (zb (pv 2)) (vH rfl g_MARKS) (by with_unfolding_all rfl)) (zp (zV (vj rfl g_BEHIND_MARK))) z0) (zn (xa (ZV (Yn (zS (uq (wX hr)) (yb yJ (zb (pv 0)) (zb (pv 1))) (vH rfl g_GREAT) (by with_unfolding_all rfl)) (jY (ZV (YK (zS (uq (wX hr)) (zb (pv 2)) (vH rfl g_SMALL) (by with_unfolding_all rfl)) (Ym (zS (uq (wX hr)) (zb (pv 2)) (vH rfl g_FIGURES) (by with_unfolding_all rfl)))))))) (zp (zV (vj rfl g_AT_GREAT))) z0) (zp (zV zj))))))
noncomputable abbrev xD:Stmt:=top 24
theorem sc_own_points:zD ["sign", "name", "place", "same"] ["sign", "name", "place"] (zh xD):=⟨rfl,rfl,rfl,by decide +kernel,rfl,by decide +kernel,by decide +kernel⟩
theorem Xz{f:Addr}{fd:FuncData}(A_:ye K mg "own_points" xD f fd)(h_beginning_points:DefOk P w K mg base "beginning_points" 1 2 ["name", "place"] yF){t_EACH_PLACE:Tok}(g_EACH_PLACE:mg "EACH_PLACE" = some (.int 10 t_EACH_PLACE)){t_SAME_SIGN:Tok}(g_SAME_SIGN:mg "SAME_SIGN" = some (.int 1 t_SAME_SIGN)):DefOk P w K mg base "own_points" 2 3 ["sign", "name", "place"] yx:=by
 refine DefOk.mk (k:=1) A_ sc_own_points rfl (fun _ _ _ _ _ _ us hl=>by obtain⟨_,_,_,rfl⟩:=lnz3 hl;rfl) (fun cdv A outer s H E hr=>?_) fun _ _ _ h=>h
 exact(zn (z6 (i:=3) sc_own_points.nd rfl (Or.inl rfl) (ze4 (zS (wn hr.units) (yb yJ (zb (pv 1)) (zb (pv 2))) (zb (pv 0)) (z9 _)) (vj rfl g_SAME_SIGN) zj)) (zp (zV (zx zH (zx zH (vj rfl g_EACH_PLACE) (zL h_beginning_points (hr.mono (by decide)) (zc (zb (pv 1)) (zc (zb (pv 2)) zk)) (zg (zg zt)))) (zb (pv 3))))))
noncomputable abbrev yu:Stmt:=top 28
theorem jy:zD ["sign", "name"] ["sign", "name"] (zh yu):=⟨rfl,rfl,rfl,by decide +kernel,rfl,by decide +kernel,by decide +kernel⟩
theorem jC{f:Addr}{fd:FuncData}(A_:ye K mg "last_sign_tails" yu f fd)(h_meets:DefOk P w K mg base "meets" 1 2 ["sign", "other"] xW)(h_own_points:DefOk P w K mg base "own_points" 2 3 ["sign", "name", "place"] yx)(z_len:mg "len" = none)(z_range:mg "range" = none):DefOk P w K mg base "last_sign_tails" 3 2 ["sign", "name"] yi:=by
 refine DefOk.mk (k:=2) A_ jy rfl (fun _ _ _ _ _ _ us hl=>by obtain⟨_,_,rfl⟩:=lnz2 hl;rfl) (fun cdv A outer s H E hr=>?_) fun _ _ _ h=>h
 exact(zp (zV (ZC (v8 (tn:=["place"]) (fr:=["sign", "name"]) (idx:=[0,1]) rfl rfl ⟨rfl,rfl,⟨rfl,rfl,trivial⟩⟩ (vp 0) (PDI.h (wB rfl z_range (zc (zJ yU rfl z_len PySem.boot_len (zc (zb (pv 1)) zk)) zk))) (fun s H C fp=>(xb (show List.Nodup (["place", "sign", "name"]:List Str) by decide +kernel) rfl (Or.inl rfl))) (fun s H C fp=>(uT (uk (zL h_meets (hr.mono (by decide)) (zc (zb (pv 1)) (zc (yb yJ (zb (pv 2)) (zb (pv 0))) zk)) (zg (zg zt)))))) (fun s H C fp=>(ul (zc (zL h_own_points (hr.mono (by decide)) (zc (zb (pv 1)) (zc (zb (pv 2)) (zc (zb (pv 0)) zk))) (zg (zg (zg zt)))) (zc (um (zc (zb (pv 0)) zk)) zk))))))))
noncomputable abbrev yP:Stmt:=top 27
theorem sc_first_of_most:zD ["tails", "chosen", "tail"] ["tails"] (zh yP):=⟨rfl,rfl,rfl,by decide +kernel,rfl,by decide +kernel,by decide +kernel⟩
theorem ZF{f:Addr}{fd:FuncData}(A_:ye K mg "first_of_most" yP f fd):DefOk P w K mg base "first_of_most" 1 1 ["tails"] zT:=by
 refine DefOk.mk (k:=0) A_ sc_first_of_most rfl (fun _ _ _ _ _ _ us hl=>by obtain⟨_,rfl⟩:=lnz1 hl;rfl) (fun cdv A outer s H E hr=>?_) fun _ _ _ h=>h
 exact(zn (z6 (i:=1) sc_first_of_most.nd rfl (Or.inl rfl) Yp) (zn (vh PassesOwn.never rfl (j0 (zb (pv 0))) (xb sc_first_of_most.nd rfl (Or.inl rfl)) (zp (xa (ZV (YK (zS ze6 (zb (pv 1)) Yp (z9 _)) (Ym (zS WP (yb yJ (zb (pv 2)) zj) (yb yJ (zb (pv 1)) zj) (z9 _))))) (zp (z6 (i:=1) sc_first_of_most.nd rfl (Or.inl rfl) (zb (pv 2)))) z0))) (zp (zV (zb (pv 1))))))
noncomputable abbrev xm:Stmt:=top 26
theorem sc_link_points:zD ["ahead", "place", "between"] ["ahead", "place"] (zh xm):=⟨rfl,rfl,rfl,by decide +kernel,rfl,by decide +kernel,by decide +kernel⟩
theorem YT{f:Addr}{fd:FuncData}(A_:ye K mg "link_points" xm f fd){t_MOST_BETWEEN:Tok}(g_MOST_BETWEEN:mg "MOST_BETWEEN" = some (.int 5 t_MOST_BETWEEN)){t_BESIDE:Tok}(g_BESIDE:mg "BESIDE" = some (.int 7 t_BESIDE))(z_min:mg "min" = none):DefOk P w K mg base "link_points" 1 2 ["ahead", "place"] xr:=by
 refine DefOk.mk (k:=0) A_ sc_link_points rfl (fun _ _ _ _ _ _ us hl=>by obtain⟨_,_,rfl⟩:=lnz2 hl;rfl) (fun cdv A outer s H E hr=>?_) fun _ _ _ h=>h
 exact(zn (z6 (i:=2) sc_link_points.nd rfl (Or.inl rfl) (zx j3 (zx j3 (zb (pv 1)) (zb (pv 0))) zj)) (zn (xa (zS (wn hr.units) (zb (pv 2)) zj (z9 _)) (zp (zV (vj rfl g_BESIDE))) z0) (zp (zV (wj (zJ (W9 rfl) rfl z_min boot_min (zc (zb (pv 2)) (zc (vj rfl g_MOST_BETWEEN) zk))))))))
noncomputable abbrev y8:Stmt:=top 29
theorem Yb:zD ["place", "tails"] ["place", "tails"] (zh y8):=⟨rfl,rfl,rfl,by decide +kernel,rfl,by decide +kernel,by decide +kernel⟩
theorem Yf{f:Addr}{fd:FuncData}(A_:ye K mg "linked_tails" y8 f fd)(h_link_points:DefOk P w K mg base "link_points" 1 2 ["ahead", "place"] xr):DefOk P w K mg base "linked_tails" 2 2 ["place", "tails"] yH:=by
 refine DefOk.mk (k:=1) A_ Yb rfl (fun _ _ _ _ _ _ us hl=>by obtain⟨_,_,rfl⟩:=lnz2 hl;rfl) (fun cdv A outer s H E hr=>?_) fun _ _ _ h=>h
 exact(zp (zV (ZC (v8 (tn:=["tail"]) (fr:=["place"]) (idx:=[0]) rfl rfl ⟨rfl,rfl,trivial⟩ (vp 0) (PDI.h (j0 (zb (pv 1)))) (fun s H C fp=>(xb (show List.Nodup (["tail", "place"]:List Str) by decide +kernel) rfl (Or.inl rfl))) (fun s H C fp=>(uT (zS WP (yb yJ (yb yJ (zb (pv 0)) zj) zj) (zb (pv 1)) (z9 _)))) (fun s H C fp=>(ul (zc (zx zH (yb yJ (zb (pv 0)) zj) (zL h_link_points (hr.mono (by decide)) (zc (zb (pv 1)) (zc (yb yJ (yb yJ (zb (pv 0)) zj) zj) zk)) (zg (zg zt)))) (zc (yb yJ (zb (pv 0)) zj) zk))))))))
noncomputable abbrev y0:Stmt:=top 30
theorem sc_longer_tails:zD ["sign", "name", "tails", "longer", "place", "chosen"] ["sign", "name", "tails"] (zh y0):=⟨rfl,rfl,rfl,by decide +kernel,rfl,by decide +kernel,by decide +kernel⟩
theorem Ye{f:Addr}{fd:FuncData}(A_:ye K mg "longer_tails" y0 f fd)(h_meets:DefOk P w K mg base "meets" 1 2 ["sign", "other"] xW)(h_own_points:DefOk P w K mg base "own_points" 2 3 ["sign", "name", "place"] yx)(h_linked_tails:DefOk P w K mg base "linked_tails" 2 2 ["place", "tails"] yH)(h_first_of_most:DefOk P w K mg base "first_of_most" 1 1 ["tails"] zT)(z_len:mg "len" = none)(z_range:mg "range" = none):DefOk P w K mg base "longer_tails" 3 3 ["sign", "name", "tails"] xc:=by
 refine DefOk.mk (k:=2) A_ sc_longer_tails rfl (fun _ _ _ _ _ _ us hl=>by obtain⟨_,_,_,rfl⟩:=lnz3 hl;rfl) (fun cdv A outer s H E hr=>?_) fun _ _ _ h=>h
 exact(zn (YL (i:=3) sc_longer_tails.nd rfl (Or.inl rfl) (WM zk)) (zn (vh PassesOwn.never rfl (wB rfl z_range (zc (zJ yU rfl z_len PySem.boot_len (zc (zb (pv 1)) zk)) zk)) (xb sc_longer_tails.nd rfl (Or.inl rfl)) (zp (xa (uk (zL h_meets (hr.mono (by decide)) (zc (zb (pv 0)) (zc (yb yJ (zb (pv 1)) (zb (pv 4))) zk)) (zg (zg zt)))) (zn (z6 (i:=5) sc_longer_tails.nd rfl (Or.inl rfl) (zL h_first_of_most (hr.mono (by decide)) (zc (zL h_linked_tails (hr.mono (by decide)) (zc (zb (pv 4)) (zc (zb (pv 2)) zk)) (zg (zg zt))) zk) (zg zt))) (zp (xa (zS X6 (zb (pv 5)) Yp (z9 _)) (zp (WL (pv 3) (ul (zc (zx zH (zL h_own_points (hr.mono (by decide)) (zc (zb (pv 0)) (zc (zb (pv 1)) (zc (zb (pv 4)) zk))) (zg (zg (zg zt)))) (yb yJ (zb (pv 5)) zj)) (zc (zx zH (um (zc (zb (pv 4)) zk)) (yb yJ (zb (pv 5)) zj)) zk))))) z0))) z0))) (zp (jZ (pv 3)))))
noncomputable abbrev xn:Stmt:=top 25
theorem YA:zD ["place"] ["place"] (zh xn):=⟨rfl,rfl,rfl,by decide +kernel,rfl,by decide +kernel,by decide +kernel⟩
theorem YU{f:Addr}{fd:FuncData}(A_:ye K mg "lead_points" xn f fd){t_MOST_AHEAD:Tok}(g_MOST_AHEAD:mg "MOST_AHEAD" = some (.int 3 t_MOST_AHEAD))(z_min:mg "min" = none):DefOk P w K mg base "lead_points" 1 1 ["place"] yV:=by
 refine DefOk.mk (k:=0) A_ YA rfl (fun _ _ _ _ _ _ us hl=>by obtain⟨_,rfl⟩:=lnz1 hl;rfl) (fun cdv A outer s H E hr=>?_) fun _ _ _ h=>h
 exact(zp (zV (wj (zJ (W9 rfl) rfl z_min boot_min (zc (zb (pv 0)) (zc (vj rfl g_MOST_AHEAD) zk))))))
noncomputable abbrev jB:Stmt:=top 31
theorem sc_best:zD ["query", "name", "tails", "number"] ["query", "name"] (zh jB):=⟨rfl,rfl,rfl,by decide +kernel,rfl,by decide +kernel,by decide +kernel⟩
theorem Lg{f:Addr}{fd:FuncData}(A_:ye K mg "best" jB f fd)(h_lead_points:DefOk P w K mg base "lead_points" 1 1 ["place"] yV)(h_first_of_most:DefOk P w K mg base "first_of_most" 1 1 ["tails"] zT)(h_longer_tails:DefOk P w K mg base "longer_tails" 3 3 ["sign", "name", "tails"] xc)(h_last_sign_tails:DefOk P w K mg base "last_sign_tails" 3 2 ["sign", "name"] yi)(z_len:mg "len" = none)(z_range:mg "range" = none):DefOk P w K mg base "best" 4 2 ["query", "name"] vW:=by
 refine DefOk.mk (k:=3) A_ sc_best rfl (fun _ _ _ _ _ _ us hl=>by obtain⟨_,_,rfl⟩:=lnz2 hl;rfl) (fun cdv A outer s H E hr=>?_) fun _ _ _ h=>h
 exact(zn (xa (zS (wn hr.units) (zJ yU rfl z_len PySem.boot_len (zc (zb (pv 0)) zk)) zj (z9 _)) (zp (zV (ul (zc zj (zc (um zk) zk))))) z0) (zn (z6 (i:=2) sc_best.nd rfl (Or.inl rfl) (zL h_last_sign_tails (hr.mono (by decide)) (zc (yb yJ (zb (pv 0)) (wj zj)) (zc (zb (pv 1)) zk)) (zg (zg zt)))) (zn (vh PassesOwn.never rfl (UB rfl z_range (zc (zx j3 (zJ yU rfl z_len PySem.boot_len (zc (zb (pv 0)) zk)) zj) (zc (wj zj) (zc (wj zj) zk)))) (xb sc_best.nd rfl (Or.inl rfl)) (zp (z6 (i:=2) sc_best.nd rfl (Or.inl rfl) (zL h_longer_tails (hr.mono (by decide)) (zc (yb yJ (zb (pv 0)) (zb (pv 3))) (zc (zb (pv 1)) (zc (zb (pv 2)) zk))) (zg (zg (zg zt))))))) (zp (zV (zL h_first_of_most (hr.mono (by decide)) (zc (ZC (v8 (tn:=["tail"]) (fr:=[]) (idx:=[]) rfl rfl trivial (vp 0) (PDI.h (j0 (zb (pv 2)))) (fun s H C fp=>(xb (show List.Nodup (["tail"]:List Str) by decide +kernel) rfl (Or.inl rfl))) (fun s H C fp=>Vz) (fun s H C fp=>(ul (zc (zx zH (yb yJ (zb (pv 0)) zj) (zL h_lead_points (hr.mono (by decide)) (zc (yb yJ (yb yJ (zb (pv 0)) zj) zj) zk) (zg zt))) (zc (yb yJ (zb (pv 0)) zj) zk)))))) zk) (zg zt)))))))
noncomputable abbrev y9:Stmt:=top 33
theorem sc_fitting_rows:zD ["names", "query", "numbers", "rows", "number", "laid"] ["names", "query", "numbers"] (zh y9):=⟨rfl,rfl,rfl,by decide +kernel,rfl,by decide +kernel,by decide +kernel⟩
theorem Yg{f:Addr}{fd:FuncData}(A_:ye K mg "fitting_rows" y9 f fd)(h_best:DefOk P w K mg base "best" 4 2 ["query", "name"] vW):DefOk P w K mg base "fitting_rows" 5 3 ["names", "query", "numbers"] yI:=by
 refine DefOk.mk (k:=4) A_ sc_fitting_rows rfl (fun _ _ _ _ _ _ us hl=>by obtain⟨_,_,_,rfl⟩:=lnz3 hl;rfl) (fun cdv A outer s H E hr=>?_) fun _ _ _ h=>h
 exact(zn (YL (i:=3) sc_fitting_rows.nd rfl (Or.inl rfl) (WM zk)) (zn (vh PassesOwn.never rfl (j0 (zb (pv 2))) (xb sc_fitting_rows.nd rfl (Or.inl rfl)) (zn (z6 (i:=5) sc_fitting_rows.nd rfl (Or.inl rfl) (zL h_best (hr.mono (by decide)) (zc (zb (pv 1)) (zc (yb yJ (zb (pv 0)) (zb (pv 4))) zk)) (zg (zg zt)))) (zp (xa (zS X6 (zb (pv 5)) Yp (z9 _)) (zp (WL (pv 3) (ul (zc (yb yJ (zb (pv 5)) zj) (zc (zb (pv 4)) zk))))) z0)))) (zp (jZ (pv 3)))))
noncomputable abbrev wf:Stmt:=vn (top 38) 5
theorem Xx:zD ["self", "many"] ["self", "many"] (zh wf):=⟨rfl,rfl,rfl,by decide +kernel,rfl,by decide +kernel,by decide +kernel⟩
theorem XF{C_Seeker:Addr}(A_Seeker:ClsAt K mg "Seeker" C_Seeker)(n_Seeker_levels:NoAttr K C_Seeker "levels")(n_Seeker_query:NoAttr K C_Seeker "query")(n_Seeker_names:NoAttr K C_Seeker "names")(h_fitting_rows:DefOk P w K mg base "fitting_rows" 5 3 ["names", "query", "numbers"] yI)(d_first_rows:DefN P w K mg base "first_rows" 5 3 ["names", "rows", "many"] yW){f:Addr}{fd:FuncData}(M_:jN K C_Seeker "now" f)(D_:Fun K "now" "Seeker.now" wf f fd):MetR P w K mg base "Seeker" "now" 6 1 ["self", "many"] z7:=by
 refine MetR.mk (k:=5) A_Seeker M_ D_ Xx rfl (fun _ _ _ _ _ _ us hl=>by obtain⟨_,_,rfl⟩:=lnz2 hl;rfl) (fun cdv A outer s H E hr=>?_)
 exact(zp (zV (ZC (QB (i:=0) (c := "Seeker") d_first_rows (hr.mono (by decide)) (v9 (Jy (pv 0) A_Seeker.ns A_Seeker.cls n_Seeker_names (by decide +kernel)) (v9 (T4 h_fitting_rows (hr.mono (by decide)) (v9 (Jy (pv 0) A_Seeker.ns A_Seeker.cls n_Seeker_names (by decide +kernel)) (v9 (UA (vR (pv 0) A_Seeker.ns A_Seeker.cls n_Seeker_query (by decide +kernel))) (v9 (Jz (pv 0) A_Seeker.ns A_Seeker.cls n_Seeker_levels (wj zj) (by decide +kernel)) JB))) (zg (zg (zg zt)))) (v9 (UA (zb (pv 1))) JB))) (zg (zg (zg zt)))))))
noncomputable abbrev jT:Stmt:=top 46
theorem sc_law:zD ["_law_script", "_law_names_here", "_law_whole", "_law_one", "_law_other", "_law_many", "_law_signs", "_law_k", "_law_sign", "_law_number"] ["_law_script"] (zh jT):=⟨rfl,rfl,rfl,by decide +kernel,rfl,by decide +kernel,by decide +kernel⟩
theorem zf7{f:Addr}{fd:FuncData}(A_:Fun K "law" "law" jT f fd)(h_Seeker_fitting:MetR P w K mg base "Seeker" "fitting" 1 0 ["self"] zN)(h_Seeker_typed:MetR P w K mg base "Seeker" "typed" 1 0 ["self"] yk)(h_Seeker_now:MetR P w K mg base "Seeker" "now" 6 1 ["self", "many"] z7)(h_Seeker_back:MetM P w K mg base "Seeker" "back" 1 0 ["self"] zQ)(h_Seeker_hide:MetM P w K mg base "Seeker" "hide" 2 1 ["self", "number"] xt)(h_Seeker_looked:MetR P w K mg base "Seeker" "looked" 1 0 ["self"] yC)(h_Seeker_add:MetM P w K mg base "Seeker" "add" 4 1 ["self", "name"] xM)(h_Seeker_letter:MetM P w K mg base "Seeker" "letter" 4 1 ["self", "sign"] yn)(c_Seeker:ClsM P w K mg base "Seeker" 1 1 ["self", "names"] z8)(h__law_drawn:DefOk P w K mg base "_law_drawn" 2 3 ["_law_script", "_law_k", "_law_many"] zr)(h__law_query:DefOk P w K mg base "_law_query" 3 4 ["_law_script", "_law_at", "_law_name_here", "_law_most"] xK)(h__law_names:DefOk P w K mg base "_law_names" 4 3 ["_law_script", "_law_at", "_law_most"] xL)(z_len:mg "len" = none)(z_range:mg "range" = none)(z_enumerate:mg "enumerate" = none):FnOk P w K mg base CX0 7 f fd ["_law_script"] (spD K 1 JI):=by
 refine fnD (k:=6) A_ sc_law rfl fun cdv A outer s H E hr=>?_
 exact(zn (z6 (i:=1) sc_law.nd rfl (Or.inl rfl) (zL h__law_names (hr.mono (by decide)) (zc (zb (pv 0)) (zc zj (zc zj zk))) (zg (zg (zg zt))))) (zn (z6 (i:=2) sc_law.nd rfl (Or.inl rfl) (zL h__law_query (hr.mono (by decide)) (zc (zb (pv 0)) (zc zj (zc (yb yJ (zx zH (zb (pv 1)) (um (zc vi zk))) (zL h__law_drawn (hr.mono (by decide)) (zc (zb (pv 0)) (zc zj (zc (zx zH (zJ yU rfl z_len PySem.boot_len (zc (zb (pv 1)) zk)) zj) zk))) (zg (zg (zg zt))))) (zc zj zk)))) (zg (zg (zg (zg zt)))))) (zn (VC (i:=3) c_Seeker (hr.mono (by decide)) rfl (zc (zb (pv 1)) zk) (zg zt) sc_law.nd rfl (Or.inl rfl)) (zn (VC (i:=4) c_Seeker (hr.mono (by decide)) rfl (zc (um zk) zk) (zg zt) sc_law.nd rfl (Or.inl rfl)) (zn (z6 (i:=5) sc_law.nd rfl (Or.inl rfl) zj) (zn (z6 (i:=6) sc_law.nd rfl (Or.inl rfl) zj) (zn (vh PassesOwn.never rfl (Qx rfl z_enumerate (zc (zb (pv 2)) zk)) (G1 rfl sc_law.nd rfl (Or.inl rfl) rfl (Or.inl rfl)) (zn (ZB PassesOwn.never (ZV (Yn (zS UG (zb (pv 5)) (zJ yU rfl z_len PySem.boot_len (zc (zb (pv 1)) zk)) (z9 _)) (jY (zS (wn hr.units) (zL h__law_drawn (hr.mono (by decide)) (zc (zb (pv 0)) (zc (zx zH (zx zH zj (zx ww zj (zb (pv 7)))) (zb (pv 5))) (zc zj zk))) (zg (zg (zg zt)))) zj (z9 _))))) (zn (wE (v7 h_Seeker_add (hr.mono (by decide)) (pv 4) (zc (yb yJ (zb (pv 1)) (zb (pv 5))) zk) (zg zt))) (zp (z6 (i:=5) sc_law.nd rfl (Or.inl rfl) (zx zH (zb (pv 5)) zj))))) (zn (wE (v7 h_Seeker_letter (hr.mono (by decide)) (pv 3) (zc (zb (pv 8)) zk) (zg zt))) (zn (wE (v7 h_Seeker_letter (hr.mono (by decide)) (pv 4) (zc (zb (pv 8)) zk) (zg zt))) (zn (z6 (i:=6) sc_law.nd rfl (Or.inl rfl) (zx zH (zb (pv 6)) zj)) (zp (xa (zS (wn hr.units) (zL h__law_drawn (hr.mono (by decide)) (zc (zb (pv 0)) (zc (zx zH zj (zb (pv 7))) (zc zj zk))) (zg (zg (zg zt)))) zj (z9 _)) (zn (wE (jc h_Seeker_back (hr.mono (by decide)) (pv 3))) (zp (wE (jc h_Seeker_back (hr.mono (by decide)) (pv 4))))) z0))))))) (zn (ZB PassesOwn.never (zS UG (zb (pv 5)) (zJ yU rfl z_len PySem.boot_len (zc (zb (pv 1)) zk)) (z9 _)) (zn (wE (v7 h_Seeker_add (hr.mono (by decide)) (pv 4) (zc (yb yJ (zb (pv 1)) (zb (pv 5))) zk) (zg zt))) (zp (z6 (i:=5) sc_law.nd rfl (Or.inl rfl) (zx zH (zb (pv 5)) zj))))) (zn (xa (ZV (YK (zS (up hr.units) (wc h_Seeker_typed (hr.mono (by decide)) (pv 3)) (wc h_Seeker_typed (hr.mono (by decide)) (pv 4)) (z9 _)) (YK (zS (up hr.units) (wc h_Seeker_fitting (hr.mono (by decide)) (pv 3)) (wc h_Seeker_fitting (hr.mono (by decide)) (pv 4)) (z9 _)) (Ym (zS (up hr.units) (je h_Seeker_now (hr.mono (by decide)) (pv 3) (zc zj zk) (zg zt)) (je h_Seeker_now (hr.mono (by decide)) (pv 4) (zc zj zk) (zg zt)) (z9 _)))))) (zp (zV UE)) z0) (zn (xa (zS WP (wc h_Seeker_looked (hr.mono (by decide)) (pv 4)) (zx ww (zJ yU rfl z_len PySem.boot_len (zc (zb (pv 1)) zk)) (zx zH (zb (pv 6)) (zJ yU rfl z_len PySem.boot_len (zc (zb (pv 2)) zk)))) (z9 _)) (zp (zV UE)) z0) (zn (xa (zS (wn hr.units) (zb (pv 1)) (um zk) (z9 _)) (zp (zV (wY (wn hr.units) (wc h_Seeker_looked (hr.mono (by decide)) (pv 4)) zj (z9 _)))) z0) (zn (z6 (i:=9) sc_law.nd rfl (Or.inr rfl) (zL h__law_drawn (hr.mono (by decide)) (zc (zb (pv 0)) (zc zj (zc (zJ yU rfl z_len PySem.boot_len (zc (zb (pv 1)) zk)) zk))) (zg (zg (zg zt))))) (zn (wE (v7 h_Seeker_hide (hr.mono (by decide)) (pv 3) (zc (zb (pv 9)) zk) (zg zt))) (zn (wE (v7 h_Seeker_hide (hr.mono (by decide)) (pv 4) (zc (zb (pv 9)) zk) (zg zt))) (zn (ZB PassesOwn.never (zS (up hr.units) (wc h_Seeker_typed (hr.mono (by decide)) (pv 3)) vi (z9 _)) (zp (T0 (ze2 (T2 (Qw (up hr.units) (jc h_Seeker_back (hr.mono (by decide)) (pv 3)) (jc h_Seeker_back (hr.mono (by decide)) (pv 4)) (z9 _)) (G0 (T3 (zS (up hr.units) (je h_Seeker_now (hr.mono (by decide)) (pv 3) (zc zj zk) (zg zt)) (je h_Seeker_now (hr.mono (by decide)) (pv 4) (zc zj zk) (zg zt)) (z9 _)))))) (zp (zV UE)) z0))) (zp (zV (wY (wn hr.units) (wc h_Seeker_fitting (hr.mono (by decide)) (pv 3)) (ZC (v8 (tn:=["_law_other_number"]) (fr:=["_law_number"]) (idx:=[9]) rfl rfl ⟨rfl,rfl,trivial⟩ (vp 0) (PDI.h (wB rfl z_range (zc (zJ yU rfl z_len PySem.boot_len (zc (zb (pv 1)) zk)) zk))) (fun s H C fp=>(xb (show List.Nodup (["_law_other_number", "_law_number"]:List Str) by decide +kernel) rfl (Or.inl rfl))) (fun s H C fp=>(uT (zS (up hr.units) (zb (pv 0)) (zb (pv 1)) (z9 _)))) (fun s H C fp=>(zb (pv 0))))) (z9 _)))))))))))))))))))
end
set_option autoImplicit true in
set_option relaxedAutoImplicit true in
theorem all_mk{l:PySem.W.OpenLaw}{w:World}{K:Frag}{h:Heap}{mg:Str→Option Value}{fa:Addr}(X:K.In h)(G:h.Ns mainGlobals mg)(hfa:mg "law" = some (.ref fa))(hl:∀ns:List Int,ns.length≤63→JI [.scr ns]=.ok (.bl true))
  {f0 f1 f2 f3 f4 f5 f6 f7 f8 f9 f10 f11 f12 f13 f14 f15 f16 f17 f18 f19 f20 f21 f22 f23 f24 f25 f26 f27 f28 f29 f30 f31 f32:Addr}
  {C_Seeker:Addr}
  (ns_Seeker:nsIn K mainGlobals "Seeker" = some (some (.ref C_Seeker)))
  (pg_Seeker:plainGet K C_Seeker Str.empty=true)
  (hd_Seeker:hasDictIn K C_Seeker=true)
  (po_Seeker:plainOver K C_Seeker=true)
  (sa_Seeker:findIn K (.ref C_Seeker) "__setattr__" = some (some (.builtin "object.__setattr__")))
  (mk_Seeker:makesIn K C_Seeker=true)
  (kc_Seeker:keepIn K (.ref C_Seeker)=true)
  (n_Seeker_looks:findIn K (.ref C_Seeker) "looks" = some none)
  (n_Seeker_levels:findIn K (.ref C_Seeker) "levels" = some none)
  (n_Seeker_query:findIn K (.ref C_Seeker) "query" = some none)
  (n_Seeker_names:findIn K (.ref C_Seeker) "names" = some none)
  (a0:nsIn K mainGlobals "_law_cell" = some (some (.ref f0))) (l0:K.lookup f0=some ⟨oc0,od0,.func (fnOf "_law_cell" "_law_cell" (zF x8) (zw x8) (zh x8) .none kV0 dc0 pm0 an0 cd0 ct0),sl0⟩) (c0:codeIn K cd0 "_law_cell" = true) (k0:keepIn K (.ref f0)=true)
  (a1:nsIn K mainGlobals "_law_drawn" = some (some (.ref f1))) (l1:K.lookup f1=some ⟨oc1,od1,.func (fnOf "_law_drawn" "_law_drawn" (zF xH) (zw xH) (zh xH) .none kV1 dc1 pm1 an1 cd1 ct1),sl1⟩) (c1:codeIn K cd1 "_law_drawn" = true) (k1:keepIn K (.ref f1)=true)
  (a2:nsIn K mainGlobals "_law_name" = some (some (.ref f2))) (l2:K.lookup f2=some ⟨oc2,od2,.func (fnOf "_law_name" "_law_name" (zF x0) (zw x0) (zh x0) .none kV2 dc2 pm2 an2 cd2 ct2),sl2⟩) (c2:codeIn K cd2 "_law_name" = true) (k2:keepIn K (.ref f2)=true)
  (a3:nsIn K mainGlobals "_law_names" = some (some (.ref f3))) (l3:K.lookup f3=some ⟨oc3,od3,.func (fnOf "_law_names" "_law_names" (zF xG) (zw xG) (zh xG) .none kV3 dc3 pm3 an3 cd3 ct3),sl3⟩) (c3:codeIn K cd3 "_law_names" = true) (k3:keepIn K (.ref f3)=true)
  (a4:nsIn K mainGlobals "_law_mark" = some (some (.ref f4))) (l4:K.lookup f4=some ⟨oc4,od4,.func (fnOf "_law_mark" "_law_mark" (zF x6) (zw x6) (zh x6) .none kV4 dc4 pm4 an4 cd4 ct4),sl4⟩) (c4:codeIn K cd4 "_law_mark" = true) (k4:keepIn K (.ref f4)=true)
  (a5:nsIn K mainGlobals "_law_query" = some (some (.ref f5))) (l5:K.lookup f5=some ⟨oc5,od5,.func (fnOf "_law_query" "_law_query" (zF xF) (zw xF) (zh xF) .none kV5 dc5 pm5 an5 cd5 ct5),sl5⟩) (c5:codeIn K cd5 "_law_query" = true) (k5:keepIn K (.ref f5)=true)
  (a6:findIn K (.ref C_Seeker) "__init__" = some (some (.ref f6))) (i6:isFn K (.ref f6)=true) (l6:K.lookup f6=some ⟨oc6,od6,.func (fnOf "__init__" "Seeker.__init__" (zF yM) (zw yM) (zh yM) .none kV6 dc6 pm6 an6 cd6 ct6),sl6⟩) (c6:codeIn K cd6 "Seeker.__init__" = true) (k6:keepIn K (.ref f6)=true)
  (a7:nsIn K mainGlobals "without" = some (some (.ref f7))) (l7:K.lookup f7=some ⟨oc7,od7,.func (fnOf "without" "without" (zF wS) (zw wS) (zh wS) .none kV7 dc7 pm7 an7 cd7 ct7),sl7⟩) (c7:codeIn K cd7 "without" = true) (k7:keepIn K (.ref f7)=true)
  (a8:findIn K (.ref C_Seeker) "hide" = some (some (.ref f8))) (i8:isFn K (.ref f8)=true) (l8:K.lookup f8=some ⟨oc8,od8,.func (fnOf "hide" "Seeker.hide" (zF xS) (zw xS) (zh xS) .none kV8 dc8 pm8 an8 cd8 ct8),sl8⟩) (c8:codeIn K cd8 "Seeker.hide" = true) (k8:keepIn K (.ref f8)=true)
  (a9:nsIn K mainGlobals "is_query_sign" = some (some (.ref f9))) (l9:K.lookup f9=some ⟨oc9,od9,.func (fnOf "is_query_sign" "is_query_sign" (zF yO) (zw yO) (zh yO) .none kV9 dc9 pm9 an9 cd9 ct9),sl9⟩) (c9:codeIn K cd9 "is_query_sign" = true) (k9:keepIn K (.ref f9)=true)
  (a10:nsIn K mainGlobals "meets" = some (some (.ref f10))) (l10:K.lookup f10=some ⟨oc10,od10,.func (fnOf "meets" "meets" (zF uf) (zw uf) (zh uf) .none kV10 dc10 pm10 an10 cd10 ct10),sl10⟩) (c10:codeIn K cd10 "meets" = true) (k10:keepIn K (.ref f10)=true)
  (a11:nsIn K mainGlobals "earliest_places" = some (some (.ref f11))) (l11:K.lookup f11=some ⟨oc11,od11,.func (fnOf "earliest_places" "earliest_places" (zF yv) (zw yv) (zh yv) .none kV11 dc11 pm11 an11 cd11 ct11),sl11⟩) (c11:codeIn K cd11 "earliest_places" = true) (k11:keepIn K (.ref f11)=true)
  (a12:nsIn K mainGlobals "fits" = some (some (.ref f12))) (l12:K.lookup f12=some ⟨oc12,od12,.func (fnOf "fits" "fits" (zF jA) (zw jA) (zh jA) .none kV12 dc12 pm12 an12 cd12 ct12),sl12⟩) (c12:codeIn K cd12 "fits" = true) (k12:keepIn K (.ref f12)=true)
  (a13:findIn K (.ref C_Seeker) "letter" = some (some (.ref f13))) (i13:isFn K (.ref f13)=true) (l13:K.lookup f13=some ⟨oc13,od13,.func (fnOf "letter" "Seeker.letter" (zF xj) (zw xj) (zh xj) .none kV13 dc13 pm13 an13 cd13 ct13),sl13⟩) (c13:codeIn K cd13 "Seeker.letter" = true) (k13:keepIn K (.ref f13)=true)
  (a14:findIn K (.ref C_Seeker) "add" = some (some (.ref f14))) (i14:isFn K (.ref f14)=true) (l14:K.lookup f14=some ⟨oc14,od14,.func (fnOf "add" "Seeker.add" (zF wg) (zw wg) (zh wg) .none kV14 dc14 pm14 an14 cd14 ct14),sl14⟩) (c14:codeIn K cd14 "Seeker.add" = true) (k14:keepIn K (.ref f14)=true)
  (a15:findIn K (.ref C_Seeker) "looked" = some (some (.ref f15))) (i15:isFn K (.ref f15)=true) (l15:K.lookup f15=some ⟨oc15,od15,.func (fnOf "looked" "Seeker.looked" (zF xi) (zw xi) (zh xi) .none kV15 dc15 pm15 an15 cd15 ct15),sl15⟩) (c15:codeIn K cd15 "Seeker.looked" = true) (k15:keepIn K (.ref f15)=true)
  (a16:findIn K (.ref C_Seeker) "typed" = some (some (.ref f16))) (i16:isFn K (.ref f16)=true) (l16:K.lookup f16=some ⟨oc16,od16,.func (fnOf "typed" "Seeker.typed" (zF xw) (zw xw) (zh xw) .none kV16 dc16 pm16 an16 cd16 ct16),sl16⟩) (c16:codeIn K cd16 "Seeker.typed" = true) (k16:keepIn K (.ref f16)=true)
  (a17:findIn K (.ref C_Seeker) "fitting" = some (some (.ref f17))) (i17:isFn K (.ref f17)=true) (l17:K.lookup f17=some ⟨oc17,od17,.func (fnOf "fitting" "Seeker.fitting" (zF yY) (zw yY) (zh yY) .none kV17 dc17 pm17 an17 cd17 ct17),sl17⟩) (c17:codeIn K cd17 "Seeker.fitting" = true) (k17:keepIn K (.ref f17)=true)
  (a18:findIn K (.ref C_Seeker) "back" = some (some (.ref f18))) (i18:isFn K (.ref f18)=true) (l18:K.lookup f18=some ⟨oc18,od18,.func (fnOf "back" "Seeker.back" (zF xT) (zw xT) (zh xT) .none kV18 dc18 pm18 an18 cd18 ct18),sl18⟩) (c18:codeIn K cd18 "Seeker.back" = true) (k18:keepIn K (.ref f18)=true)
  (a19:nsIn K mainGlobals "in_order" = some (some (.ref f19))) (l19:K.lookup f19=some ⟨oc19,od19,.func (fnOf "in_order" "in_order" (zF wT) (zw wT) (zh wT) .none kV19 dc19 pm19 an19 (.ref cc19) ct19),sl19⟩) (c19:codeIn K (.ref cc19) "in_order" = true) (k19:keepIn K (.ref f19)=true) (tb19:PySem.W.codeHdIn K cc19 145=true)
  (a20:nsIn K mainGlobals "first_rows" = some (some (.ref f20))) (l20:K.lookup f20=some ⟨oc20,od20,.func (fnOf "first_rows" "first_rows" (zF xE) (zw xE) (zh xE) .none kV20 dc20 pm20 an20 cd20 ct20),sl20⟩) (c20:codeIn K cd20 "first_rows" = true) (k20:keepIn K (.ref f20)=true)
  (a21:nsIn K mainGlobals "beginning_points" = some (some (.ref f21))) (l21:K.lookup f21=some ⟨oc21,od21,.func (fnOf "beginning_points" "beginning_points" (zF yq) (zw yq) (zh yq) .none kV21 dc21 pm21 an21 cd21 ct21),sl21⟩) (c21:codeIn K cd21 "beginning_points" = true) (k21:keepIn K (.ref f21)=true)
  (a22:nsIn K mainGlobals "own_points" = some (some (.ref f22))) (l22:K.lookup f22=some ⟨oc22,od22,.func (fnOf "own_points" "own_points" (zF xD) (zw xD) (zh xD) .none kV22 dc22 pm22 an22 cd22 ct22),sl22⟩) (c22:codeIn K cd22 "own_points" = true) (k22:keepIn K (.ref f22)=true)
  (a23:nsIn K mainGlobals "last_sign_tails" = some (some (.ref f23))) (l23:K.lookup f23=some ⟨oc23,od23,.func (fnOf "last_sign_tails" "last_sign_tails" (zF yu) (zw yu) (zh yu) .none kV23 dc23 pm23 an23 cd23 ct23),sl23⟩) (c23:codeIn K cd23 "last_sign_tails" = true) (k23:keepIn K (.ref f23)=true)
  (a24:nsIn K mainGlobals "first_of_most" = some (some (.ref f24))) (l24:K.lookup f24=some ⟨oc24,od24,.func (fnOf "first_of_most" "first_of_most" (zF yP) (zw yP) (zh yP) .none kV24 dc24 pm24 an24 cd24 ct24),sl24⟩) (c24:codeIn K cd24 "first_of_most" = true) (k24:keepIn K (.ref f24)=true)
  (a25:nsIn K mainGlobals "link_points" = some (some (.ref f25))) (l25:K.lookup f25=some ⟨oc25,od25,.func (fnOf "link_points" "link_points" (zF xm) (zw xm) (zh xm) .none kV25 dc25 pm25 an25 cd25 ct25),sl25⟩) (c25:codeIn K cd25 "link_points" = true) (k25:keepIn K (.ref f25)=true)
  (a26:nsIn K mainGlobals "linked_tails" = some (some (.ref f26))) (l26:K.lookup f26=some ⟨oc26,od26,.func (fnOf "linked_tails" "linked_tails" (zF y8) (zw y8) (zh y8) .none kV26 dc26 pm26 an26 cd26 ct26),sl26⟩) (c26:codeIn K cd26 "linked_tails" = true) (k26:keepIn K (.ref f26)=true)
  (a27:nsIn K mainGlobals "longer_tails" = some (some (.ref f27))) (l27:K.lookup f27=some ⟨oc27,od27,.func (fnOf "longer_tails" "longer_tails" (zF y0) (zw y0) (zh y0) .none kV27 dc27 pm27 an27 cd27 ct27),sl27⟩) (c27:codeIn K cd27 "longer_tails" = true) (k27:keepIn K (.ref f27)=true)
  (a28:nsIn K mainGlobals "lead_points" = some (some (.ref f28))) (l28:K.lookup f28=some ⟨oc28,od28,.func (fnOf "lead_points" "lead_points" (zF xn) (zw xn) (zh xn) .none kV28 dc28 pm28 an28 cd28 ct28),sl28⟩) (c28:codeIn K cd28 "lead_points" = true) (k28:keepIn K (.ref f28)=true)
  (a29:nsIn K mainGlobals "best" = some (some (.ref f29))) (l29:K.lookup f29=some ⟨oc29,od29,.func (fnOf "best" "best" (zF jB) (zw jB) (zh jB) .none kV29 dc29 pm29 an29 cd29 ct29),sl29⟩) (c29:codeIn K cd29 "best" = true) (k29:keepIn K (.ref f29)=true)
  (a30:nsIn K mainGlobals "fitting_rows" = some (some (.ref f30))) (l30:K.lookup f30=some ⟨oc30,od30,.func (fnOf "fitting_rows" "fitting_rows" (zF y9) (zw y9) (zh y9) .none kV30 dc30 pm30 an30 cd30 ct30),sl30⟩) (c30:codeIn K cd30 "fitting_rows" = true) (k30:keepIn K (.ref f30)=true)
  (a31:findIn K (.ref C_Seeker) "now" = some (some (.ref f31))) (i31:isFn K (.ref f31)=true) (l31:K.lookup f31=some ⟨oc31,od31,.func (fnOf "now" "Seeker.now" (zF wf) (zw wf) (zh wf) .none kV31 dc31 pm31 an31 cd31 ct31),sl31⟩) (c31:codeIn K cd31 "Seeker.now" = true) (k31:keepIn K (.ref f31)=true)
  (a32:nsIn K mainGlobals "law" = some (some (.ref f32))) (l32:K.lookup f32=some ⟨oc32,od32,.func (fnOf "law" "law" (zF jT) (zw jT) (zh jT) .none kV32 dc32 pm32 an32 cd32 ct32),sl32⟩) (c32:codeIn K cd32 "law" = true) (k32:keepIn K (.ref f32)=true)
  (g_FIGURES:nsIn K mainGlobals "FIGURES" = some (some (.str "0123456789" t_FIGURES)))
  (g_GREAT:nsIn K mainGlobals "GREAT" = some (some (.str "ABCDEFGHIJKLMNOPQRSTUVWXYZ" t_GREAT)))
  (g_SMALL:nsIn K mainGlobals "SMALL" = some (some (.str "abcdefghijklmnopqrstuvwxyz" t_SMALL)))
  (g_LONGEST_QUERY:nsIn K mainGlobals "LONGEST_QUERY" = some (some (.int 8 t_LONGEST_QUERY)))
  (g_AT_GREAT:nsIn K mainGlobals "AT_GREAT" = some (some (.int 5 t_AT_GREAT)))
  (g_MARKS:nsIn K mainGlobals "MARKS" = some (some (.str "_-./" t_MARKS)))
  (g_BEHIND_MARK:nsIn K mainGlobals "BEHIND_MARK" = some (some (.int 6 t_BEHIND_MARK)))
  (g_AT_BEGINNING:nsIn K mainGlobals "AT_BEGINNING" = some (some (.int 8 t_AT_BEGINNING)))
  (g_EACH_PLACE:nsIn K mainGlobals "EACH_PLACE" = some (some (.int 10 t_EACH_PLACE)))
  (g_SAME_SIGN:nsIn K mainGlobals "SAME_SIGN" = some (some (.int 1 t_SAME_SIGN)))
  (g_MOST_BETWEEN:nsIn K mainGlobals "MOST_BETWEEN" = some (some (.int 5 t_MOST_BETWEEN)))
  (g_BESIDE:nsIn K mainGlobals "BESIDE" = some (some (.int 7 t_BESIDE)))
  (g_MOST_AHEAD:nsIn K mainGlobals "MOST_AHEAD" = some (some (.int 3 t_MOST_AHEAD)))
  (z_len:nsIn K mainGlobals "len" = some none)
  (z_range:nsIn K mainGlobals "range" = some none)
  (z_min:nsIn K mainGlobals "min" = some none)
  (z_list:nsIn K mainGlobals "list" = some none)
  (z_sorted:nsIn K mainGlobals "sorted" = some none)
  (z_max:nsIn K mainGlobals "max" = some none)
  (z_enumerate:nsIn K mainGlobals "enumerate" = some none)
  : Tf K∧∃fd:FuncData,(∀(s:Shared) (v:Value),BindsTo s fd ⟨[v],[]⟩ [("_law_script", v)])∧∀base:Heap,K.In base→base.Ns mainGlobals mg→BM mg base→FnOk l.prog w K mg base CX0 7 fa fd ["_law_script"] (Ji K):=by
 have e:=hfa.symm.trans (mg_of X G a32)
 cases e
 refine⟨fun r hr=>?_,?_⟩
 ·rcases hr with _|⟨_,hr⟩
  ·exact⟨_,tb19⟩
  ·cases hr
 have A_Seeker:ClsAt K mg "Seeker" C_Seeker:=⟨ns_Seeker,⟨pg_Seeker,hd_Seeker,po_Seeker,sa_Seeker⟩,mg_of X G ns_Seeker⟩
 have D0:ye K mg "_law_cell" x8 f0 _:=⟨ym (st:=x8) l0 c0 k0,mg_of X G a0⟩
 have D1:ye K mg "_law_drawn" xH f1 _:=⟨ym (st:=xH) l1 c1 k1,mg_of X G a1⟩
 have D2:ye K mg "_law_name" x0 f2 _:=⟨ym (st:=x0) l2 c2 k2,mg_of X G a2⟩
 have D3:ye K mg "_law_names" xG f3 _:=⟨ym (st:=xG) l3 c3 k3,mg_of X G a3⟩
 have D4:ye K mg "_law_mark" x6 f4 _:=⟨ym (st:=x6) l4 c4 k4,mg_of X G a4⟩
 have D5:ye K mg "_law_query" xF f5 _:=⟨ym (st:=xF) l5 c5 k5,mg_of X G a5⟩
 have D7:ye K mg "without" wS f7 _:=⟨ym (st:=wS) l7 c7 k7,mg_of X G a7⟩
 have D9:ye K mg "is_query_sign" yO f9 _:=⟨ym (st:=yO) l9 c9 k9,mg_of X G a9⟩
 have D10:ye K mg "meets" uf f10 _:=⟨ym (st:=uf) l10 c10 k10,mg_of X G a10⟩
 have D11:ye K mg "earliest_places" yv f11 _:=⟨ym (st:=yv) l11 c11 k11,mg_of X G a11⟩
 have D12:ye K mg "fits" jA f12 _:=⟨ym (st:=jA) l12 c12 k12,mg_of X G a12⟩
 have D19:Jb K mg "in_order" wT f19 cc19 145:=⟨⟨_,_,_,_,_,_,_,_,l19⟩,c19,k19,mg_of X G a19,tb19⟩
 have D20:ye K mg "first_rows" xE f20 _:=⟨ym (st:=xE) l20 c20 k20,mg_of X G a20⟩
 have D21:ye K mg "beginning_points" yq f21 _:=⟨ym (st:=yq) l21 c21 k21,mg_of X G a21⟩
 have D22:ye K mg "own_points" xD f22 _:=⟨ym (st:=xD) l22 c22 k22,mg_of X G a22⟩
 have D23:ye K mg "last_sign_tails" yu f23 _:=⟨ym (st:=yu) l23 c23 k23,mg_of X G a23⟩
 have D24:ye K mg "first_of_most" yP f24 _:=⟨ym (st:=yP) l24 c24 k24,mg_of X G a24⟩
 have D25:ye K mg "link_points" xm f25 _:=⟨ym (st:=xm) l25 c25 k25,mg_of X G a25⟩
 have D26:ye K mg "linked_tails" y8 f26 _:=⟨ym (st:=y8) l26 c26 k26,mg_of X G a26⟩
 have D27:ye K mg "longer_tails" y0 f27 _:=⟨ym (st:=y0) l27 c27 k27,mg_of X G a27⟩
 have D28:ye K mg "lead_points" xn f28 _:=⟨ym (st:=xn) l28 c28 k28,mg_of X G a28⟩
 have D29:ye K mg "best" jB f29 _:=⟨ym (st:=jB) l29 c29 k29,mg_of X G a29⟩
 have D30:ye K mg "fitting_rows" y9 f30 _:=⟨ym (st:=y9) l30 c30 k30,mg_of X G a30⟩
 refine⟨fnOf "law" "law" (zF jT) (zw jT) (zh jT) .none kV32 dc32 pm32 an32 cd32 ct32,fun s v=>.of_eq rfl,fun base _ _ bm=>?_⟩
 have h__law_cell:DefOk l.prog w K mg base "_law_cell" 1 2 ["_law_script", "_law_k"] wF:=WT D0 (mg_none_of X G z_len)
 have h__law_drawn:DefOk l.prog w K mg base "_law_drawn" 2 3 ["_law_script", "_law_k", "_law_many"] zr:=XE D1 h__law_cell
 have h__law_name:DefOk l.prog w K mg base "_law_name" 3 2 ["_law_script", "_law_at"] xB:=WR D2 h__law_drawn (mg_none_of X G z_range)
 have h__law_names:DefOk l.prog w K mg base "_law_names" 4 3 ["_law_script", "_law_at", "_law_most"] xL:=XD D3 h__law_drawn h__law_name (mg_none_of X G z_len) (mg_none_of X G z_range)
 have h__law_mark:DefOk l.prog w K mg base "_law_mark" 1 1 ["_law_sign"] xC:=WS D4
 have h__law_query:DefOk l.prog w K mg base "_law_query" 3 4 ["_law_script", "_law_at", "_law_name_here", "_law_most"] xK:=XC D5 h__law_drawn h__law_mark (mg_none_of X G z_range) (mg_none_of X G z_len) (mg_none_of X G z_min)
 have c_Seeker:=jE (P:=l.prog) (w:=w) (base:=base) A_Seeker n_Seeker_looks n_Seeker_levels n_Seeker_query n_Seeker_names (mg_none_of X G z_len) (mg_none_of X G z_list) (mg_none_of X G z_range) ⟨mk_Seeker,a6,i6,kc_Seeker⟩ (ym (st:=yM) l6 c6 k6)
 have d_without:DefN l.prog w K mg base "without" 1 2 ["number", "level"] xN:=UJ D7
 have h_without:DefOk l.prog w K mg base "without" 1 2 ["number", "level"] QR:=DefN.ok d_without
 have h_Seeker_hide:=YV (P:=l.prog) (w:=w) (base:=base) A_Seeker n_Seeker_levels d_without ⟨a8,i8,k8⟩ (ym (st:=xS) l8 c8 k8)
 have h_is_query_sign:DefOk l.prog w K mg base "is_query_sign" 1 1 ["sign"] yQ:=ZE D9 (mg_of X G g_FIGURES) (mg_of X G g_GREAT) (mg_of X G g_SMALL)
 have h_meets:DefOk l.prog w K mg base "meets" 1 2 ["sign", "other"] xW:=Md D10 (mg_of X G g_SMALL)
 have h_earliest_places:DefOk l.prog w K mg base "earliest_places" 2 2 ["query", "name"] yN:=jD D11 h_meets (mg_none_of X G z_len) (mg_none_of X G z_range)
 have h_fits:DefOk l.prog w K mg base "fits" 3 2 ["query", "name"] wU:=Lf D12 h_earliest_places (mg_none_of X G z_len)
 have h_Seeker_letter:=ZH (P:=l.prog) (w:=w) (base:=base) A_Seeker n_Seeker_names n_Seeker_query n_Seeker_levels n_Seeker_looks h_fits h_is_query_sign (mg_of X G g_LONGEST_QUERY) (mg_none_of X G z_len) ⟨a13,i13,k13⟩ (ym (st:=xj) l13 c13 k13)
 have h_Seeker_add:=XG (P:=l.prog) (w:=w) (base:=base) A_Seeker n_Seeker_query n_Seeker_levels n_Seeker_looks n_Seeker_names h_fits (mg_none_of X G z_len) (mg_none_of X G z_range) ⟨a14,i14,k14⟩ (ym (st:=wg) l14 c14 k14)
 have h_Seeker_looked:=ZG (P:=l.prog) (w:=w) (base:=base) A_Seeker n_Seeker_looks ⟨a15,i15,k15⟩ (ym (st:=xi) l15 c15 k15)
 have h_Seeker_typed:=Yh (P:=l.prog) (w:=w) (base:=base) A_Seeker n_Seeker_query ⟨a16,i16,k16⟩ (ym (st:=xw) l16 c16 k16)
 have h_Seeker_fitting:=j6 (P:=l.prog) (w:=w) (base:=base) A_Seeker n_Seeker_levels (mg_none_of X G z_list) ⟨a17,i17,k17⟩ (ym (st:=yY) l17 c17 k17)
 have h_Seeker_back:=YW (P:=l.prog) (w:=w) (base:=base) A_Seeker n_Seeker_levels n_Seeker_query (mg_none_of X G z_len) ⟨a18,i18,k18⟩ (ym (st:=xT) l18 c18 k18)
 have h_in_order:DefOk l.prog w K mg base "in_order" 4 2 ["names", "rows"] wd:=VI D19 bm (mg_none_of X G z_len) (mg_none_of X G z_sorted)
 have d_first_rows:DefN l.prog w K mg base "first_rows" 5 3 ["names", "rows", "many"] yW:=XB D20 h_in_order (mg_none_of X G z_max)
 have h_first_rows:DefOk l.prog w K mg base "first_rows" 5 3 ["names", "rows", "many"] WX:=DefN.ok d_first_rows
 have h_beginning_points:DefOk l.prog w K mg base "beginning_points" 1 2 ["name", "place"] yF:=jn D21 (mg_of X G g_FIGURES) (mg_of X G g_SMALL) (mg_of X G g_GREAT) (mg_of X G g_AT_GREAT) (mg_of X G g_MARKS) (mg_of X G g_BEHIND_MARK) (mg_of X G g_AT_BEGINNING)
 have h_own_points:DefOk l.prog w K mg base "own_points" 2 3 ["sign", "name", "place"] yx:=Xz D22 h_beginning_points (mg_of X G g_EACH_PLACE) (mg_of X G g_SAME_SIGN)
 have h_last_sign_tails:DefOk l.prog w K mg base "last_sign_tails" 3 2 ["sign", "name"] yi:=jC D23 h_meets h_own_points (mg_none_of X G z_len) (mg_none_of X G z_range)
 have h_first_of_most:DefOk l.prog w K mg base "first_of_most" 1 1 ["tails"] zT:=ZF D24
 have h_link_points:DefOk l.prog w K mg base "link_points" 1 2 ["ahead", "place"] xr:=YT D25 (mg_of X G g_MOST_BETWEEN) (mg_of X G g_BESIDE) (mg_none_of X G z_min)
 have h_linked_tails:DefOk l.prog w K mg base "linked_tails" 2 2 ["place", "tails"] yH:=Yf D26 h_link_points
 have h_longer_tails:DefOk l.prog w K mg base "longer_tails" 3 3 ["sign", "name", "tails"] xc:=Ye D27 h_meets h_own_points h_linked_tails h_first_of_most (mg_none_of X G z_len) (mg_none_of X G z_range)
 have h_lead_points:DefOk l.prog w K mg base "lead_points" 1 1 ["place"] yV:=YU D28 (mg_of X G g_MOST_AHEAD) (mg_none_of X G z_min)
 have h_best:DefOk l.prog w K mg base "best" 4 2 ["query", "name"] vW:=Lg D29 h_lead_points h_first_of_most h_longer_tails h_last_sign_tails (mg_none_of X G z_len) (mg_none_of X G z_range)
 have h_fitting_rows:DefOk l.prog w K mg base "fitting_rows" 5 3 ["names", "query", "numbers"] yI:=Yg D30 h_best
 have h_Seeker_now:=XF (P:=l.prog) (w:=w) (base:=base) A_Seeker n_Seeker_levels n_Seeker_query n_Seeker_names h_fitting_rows d_first_rows ⟨a31,i31,k31⟩ (ym (st:=wf) l31 c31 k31)
 exact zh2 (zf7 (ym (st:=jT) l32 c32 k32) h_Seeker_fitting h_Seeker_typed h_Seeker_now h_Seeker_back h_Seeker_hide h_Seeker_looked h_Seeker_add h_Seeker_letter c_Seeker h__law_drawn h__law_query h__law_names (mg_none_of X G z_len) (mg_none_of X G z_range) (mg_none_of X G z_enumerate)) hl
end Law
open PySem PySem.W PyProof.Rows
set_option maxRecDepth 100000 in
set_option maxHeartbeats 0 in
theorem PySem.Challenge.cw_fewfind_k32_whole_seekers_alike_holds : PySem.Challenge.rw_fewfind_k32_whole_seekers_alike.Holds := by
 w_on;o_law;k_head;(case hw=>w_witness2)
 k_fill
 refine FD.walkM (l:=PySem.Challenge.rw_fewfind_k32_whole_seekers_alike) (k:=7) (p := "_law_script") rfl rfl ⟨rfl,by decide,by decide⟩ ?T ?F
 case F=>
  intro w mg fa h KX G hmg
  refine' Law.all_mk KX G hmg Law.main ..
  any_goals first|k_is|k_exc|with_unfolding_all rfl
 case T=>decide
