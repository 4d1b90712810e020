import PyProof.Rows.All
import Wide.All
import OpenK.AllK
import Wide.FinOn
import Lean
import PyProof.EqAt
import PyProof.EqKinds
import PyProof.TupleCall
import PyProof.NeKinds
import PyProof.NeData
import PyProof.P3In
import PyProof.ZipIter
import PyProof.Draws
import PyProof.StrWalks
import PyProof.IsiPairs
import PyProof.IsiSeqPairs
import PyProof.ConsumeWalk
import PyProof.ListStr
import PyProof.IsiHeapPairs
import PyProof.Rows.Range3
import PyProof.IsiNone
import KE.KRevIter
import KE.KRevSl
import PyProof.Conv_int_bool
import PyProof.ListRange
import PyProof.TupleOfSeq
import PyProof.MinMaxWalk
import PyProof.WalkInts
import PyProof.SeqI3
import PySem.Challenge.RW_fewfind_k94_whole_back_and_twins
set_option Elab.async false
set_option linter.all false
set_option maxRecDepth 100000
open PySem.W (instObj methodObj lookIn plainGet hasDictIn findIn plainGet_of isFn plainOver takerIn makesIn emptyDict keepIn callWith_K fnOf codeIn nsIn mg_of mg_none_of)
open PyProof.Rows (boot_list)
open List (mem_filter mem_range mem_cons_self mem_cons_of_mem mem_cons mem_append mem_append_left getElem?_set_self getElem?_set_ne mem_append_right size_toArray length_cons map_cons length_map append_nil nodup_cons length_take getElem?_append_right getElem?_replicate getElem?_append_left getElem?_map length_append length_drop replicate_succ flatten_cons foldl_cons length_singleton nil_append map_nil getElem?_set drop_eq_getElem_cons drop_length lookup_cons set_set range'_succ length_range mem_map pairwise_cons map_map getElem?_eq_getElem map_append mem_singleton getElem?_cons_succ getElem?_cons_zero length_nil getD_eq_getElem?_getD set_cons_succ set_cons_zero range_succ getElem_mem take_length)
open Nat (lt_of_lt_of_le lt_irrefl ne_of_lt le_trans le_of_lt ne_of_gt le_refl zero_le lt_or_ge zero_add)
open Int (emod_nonneg)
open Array (length_toList getElem_toList)
open PySem.W (Frag)
open PySem.Heap (get?_push_of_some)
theorem byc{p:Prop}(h:¬p→False):p:=Classical.byContradiction h
namespace L2
open PySem PySem.Spec PyProof.Rows
theorem lnz1{α:Type _}{l:List α}(h:l.length=1):∃a,l=[a]:=List.length_eq_one_iff.mp h
theorem lnz2{α:Type _}{l:List α}(h:l.length=2):∃a b,l=[a,b]:=by
 match l,h with
 |[a,b],_=>exact⟨a,b,rfl⟩
theorem lnz3{α:Type _}{l:List α}(h:l.length=3):∃a b c,l=[a,b,c]:=by
 match l,h with
 |[a,b,c],_=>exact⟨a,b,c,rfl⟩
theorem lnz4{α:Type _}{l:List α}(h:l.length=4):∃a b c d,l=[a,b,c,d]:=by
 match l,h with
 |[a,b,c,d],_=>exact⟨a,b,c,d,rfl⟩
noncomputable abbrev Key:=Sum Int Str
noncomputable def LY:Key→Value→Bool
 |.inl k,v=>Value.isInt k v
 |.inr x,v=>Value.isStrOf x v
noncomputable def keyH(w:World):Key→Int
 |.inl k=>hashInt k
 |.inr x=>hashStr w x
theorem xm:∀{k:Key} {v:Value},LY k v=true→(∃i t,k=Sum.inl i∧v=Value.int i t)∨(∃x t,k=Sum.inr x∧v=Value.str x t)
 |.inl i,v,h=>by
  obtain⟨t,e⟩:=Value.isInt_shape (k:=i) (v:=v) h
  exact .inl ⟨i,t,rfl,e⟩
 |.inr x,v,h=>by
  obtain⟨t,e⟩:=Value.isStrOf_shape (x:=x) (v:=v) h
  exact .inr ⟨x,t,rfl,e⟩
theorem zf3(a b:Int):decide ((Sum.inl a:Key)=Sum.inl b)=(a==b):=by
 by_cases e:a=b
 ·subst e;simp
 ·have h:¬ (Sum.inl a:Key)=Sum.inl b:=fun q=>e (Sum.inl.inj q)
  rw[decide_eq_false h]
  exact(beq_eq_false_iff_ne.mpr e).symm
theorem zf0(a b:Str):decide ((Sum.inr a:Key)=Sum.inr b)=decide (a=b):=by
 by_cases e:a=b
 ·subst e;simp
 ·have h:¬ (Sum.inr a:Key)=Sum.inr b:=fun q=>e (Sum.inr.inj q)
  rw[decide_eq_false h,decide_eq_false e]
theorem zf2(a:Int)(b:Str):decide ((Sum.inl a:Key)=Sum.inr b)=false:=decide_eq_false (fun q=>nomatch q)
theorem zf1(a:Str)(b:Int):decide ((Sum.inr a:Key)=Sum.inl b)=false:=decide_eq_false (fun q=>nomatch q)
noncomputable def Vj(prog:Program)(w:World):PySem.KeyKind prog w Key where
 is:=LY
 hash:=keyH w
 inj:=fun v a b ha hb=>by
  rcases xm ha with ⟨i,t,rfl,rfl⟩|⟨x,t,rfl,rfl⟩
  ·rcases xm hb with ⟨j,u,rfl,e⟩|⟨y,u,rfl,e⟩
   ·injection e with e1 _;rw[e1]
   ·exact nomatch e
  ·rcases xm hb with ⟨j,u,rfl,e⟩|⟨y,u,rfl,e⟩
   ·exact nomatch e
   ·injection e with e1 _;rw[e1]
 byValue:=fun k v h=>by
  rcases xm h with ⟨i,t,rfl,rfl⟩|⟨x,t,rfl,rfl⟩ <;> rfl
 pyHash:=fun hv h=>by
  rcases xm hv with ⟨i,t,rfl,rfl⟩|⟨x,t,rfl,rfl⟩
  ·exact wpAny_pyHash_int h
  ·exact wpAny_pyHash_str h
 eqBool:=fun hu hv h=>by
  rcases xm hu with ⟨i,t,rfl,rfl⟩|⟨x,t,rfl,rfl⟩
  ·rcases xm hv with ⟨j,u,rfl,rfl⟩|⟨y,u,rfl,rfl⟩
   ·rw[zf3] at h;exact wpAny_eqBool_int h
   ·rw[zf2] at h;exact SeqAt.EqAt.int_str i t y u _ _ _ _ h
  ·rcases xm hv with ⟨j,u,rfl,rfl⟩|⟨y,u,rfl,rfl⟩
   ·rw[zf1] at h;exact SeqAt.EqAt.str_int x t j u _ _ _ _ h
   ·rw[zf0] at h;exact wpAny_eqBool_str h
 «strs»:=fun k x t v h=>by
  rcases xm h with ⟨i,u,rfl,e⟩|⟨y,u,rfl,e⟩
  ·exact nomatch e
  ·injection e with e1 _
   subst e1
   cases v <;> rfl
inductive V where
 | non|bl (b:Bool) | int (i:Int) | str (x:Str) | byt (b:Array UInt8) | flt (b:UInt64) | ref (a:Addr) | ty (n:String)
 deriving DecidableEq
noncomputable def RelV:V→Value→Prop
 |.non,u=>u=Value.none
 |.bl b,u=>u=Value.bool b
 |.int i,u=>∃t,u=Value.int i t
 |.str x,u=>∃t,u=Value.str x t
 |.byt b,u=>∃t,u=Value.bytes b t
 |.flt b,u=>∃t,u=Value.float b t
 |.ref a,u=>u=Value.ref a
 |.ty n,u=>u=Value.type n
noncomputable abbrev Vals:List V→List Value→Prop:=Paired RelV
theorem Vals.length{xs:List V}{us:List Value}(r:Vals xs us):xs.length=us.length:=Paired.length r
theorem Vals.get:∀{xs:List V} {us:List Value} {i:Nat} {x:V},Vals xs us→xs[i]?=some x→∃u,us[i]?=some u∧RelV x u
 |_,_,_,_,.nil,e=>by simp at e
 |_,_,0,_,.cons r _,e=>by simp at e;subst e;exact⟨_,rfl,r⟩
 |_,_,i+1,x,.cons _ t,e=>by
  obtain⟨u,h1,h2⟩:=Vals.get (i:=i) (x:=x) t (by simpa using e)
  exact⟨u,by simpa using h1,h2⟩
theorem Vals.set{x:V}{u:Value}(r:RelV x u):∀{xs:List V} {us:List Value} (i:Nat),Vals xs us→Vals (xs.set i x) (us.set i u)
 |_,_,_,.nil=>.nil
 |_,_,0,.cons _ t=>.cons r t
 |_,_,i+1,.cons q t=>.cons q (Vals.set r i t)
theorem Vals.append:∀{xs ys:List V} {us ws:List Value},Vals xs us→Vals ys ws→Vals (xs++ys) (us++ws)
 |_,_,_,_,.nil,s=>s
 |_,_,_,_,.cons r t,s=>.cons r (Vals.append t s)
theorem Vals.take:∀{xs:List V} {us:List Value} (n:Nat),Vals xs us→Vals (xs.take n) (us.take n)
 |_,_,0,_=>.nil
 |_,_,_+1,.nil=>.nil
 |_,_,n+1,.cons r t=>.cons r (Vals.take n t)
theorem Vals.drop:∀{xs:List V} {us:List Value} (n:Nat),Vals xs us→Vals (xs.drop n) (us.drop n)
 |_,_,0,r=>r
 |_,_,_+1,.nil=>.nil
 |_,_,n+1,.cons _ t=>Vals.drop n t
noncomputable def RelO:Option V→Option Value→Prop
 |some v,some u=>RelV v u
 |none,none=>True
 |_,_=>False
noncomputable def KV{κ:Type}:List (κ×V)→List (κ×Value)→Prop:=Paired fun (p:κ×V) (q:κ×Value)=>p.1=q.1∧RelV p.2 q.2
noncomputable def kV:Key→V
 |.inl i=>.int i
 |.inr x=>.str x
inductive HO where
 | lst (xs:List V)
 | tup (xs:List V)
 | dK (kvs:List (Key×V)) | dT (kvs:List (List Key×V))
 | set (S:Int→Bool) (n:Nat)
 | ins (C dx:Addr) (fs:List (Str×V))
 | own (x:Addr)
 | xd (fs:List (Str×V))
 | met (f x:Addr)
 | rng (lo hi:Int)
 | frz (o:Obj) (u:HO)
 | tbl (ps:Array Value)
 | ext (φ:Heap→Prop)
noncomputable abbrev Hp:=Addr→Option HO
noncomputable def upd(H:Hp)(a:Addr)(o:HO):Hp:=fun b=>if b=a then some o else H b
theorem zB{H:Hp}{a:Addr}{o:HO}:upd H a o a=some o:=by unfold upd;rw[if_pos rfl]
theorem zr{H:Hp}{a b:Addr}{o:HO}(h:b≠a):upd H a o b=H b:=by unfold upd;rw[if_neg h]
theorem zR{H:Hp}{a b:Addr}{o:HO}(h:H a=some o)(h':H b=none):a≠b:=by
 intro e;subst e;rw[h] at h';cases h'
section
variable(P:Program)(w:World)
noncomputable def ObjOk(H:Hp)(h:Heap)(a:Addr):HO→Prop
 |.lst xs=>xs.length≤sizeLine∧∃(its:List Value) (n:Nat),Vals xs its∧h.get? a=some { cls:=.type "list", data:=.seq its.toArray n }
 |.tup xs=>xs.length≤sizeLine∧∃its:List Value,Vals xs its∧IsTup h a its.toArray
 |.dK kvs=>kvs.length≤sizeLine∧(a==sysModules)=false∧∃vs,KV kvs vs∧h.DictOf (Vj P w) a vs
 |.dT kvs=>kvs.length≤sizeLine∧(a==sysModules)=false∧∃xs:List (List Key×Addr×Value),
   Paired (fun (p:List Key×V) (q:List Key×Addr×Value)=>p.1=q.1∧H q.2.1=some (.tup (p.1.map kV))∧RelV p.2 q.2.2) kvs xs ∧
   ∃o es ep,h.get? a=some o∧o.ExactDict∧o.data=.dict es ep∧es.toList=xs.map (entryOfKey (tupleKind (Vj P w)))∧(xs.map (·.1)).Nodup
 |.set S n=>h.SetOf (intKind P w) a S n
 |.ins C dx fs=>H dx=some (.own a)∧fs.length≤1000∧dx≠a∧h.get? a=some (instObj C dx) ∧
   ∃mA,h.Ns1 dx mA∧(∀f,RelO (fs.lookup f) (mA f))∧PySem.Within mA (fs.map (·.1))
 |.own _=>∃o,h.get? a=some o
 |.xd fs=>∃mA,h.Ns1 a mA∧∀f,RelO (fs.lookup f) (mA f)
 |.rng lo hi=>∃t u v,h.get? a=some { cls:=.type "range", data:=.fields #[.int lo t,.int hi u,.int 1 v] }
 |.frz o u=>h.get? a=some o∧ObjOk H h a u
 |.tbl ps=>h.get? a=some { cls:=.none,data:=.fields ps }
 |.met f x=>h.get? a=some (methodObj (.ref f) (.ref x))
 |.ext φ=>φ h∧(∃o,h.get? a=some o)∧∀h1 h2:Heap,φ h1→(∀o,h1.get? a=some o→h2.get? a=some o)→φ h2
noncomputable def HOk(H:Hp)(h:Heap):Prop:=∀a o,H a=some o→ObjOk P w H h a o
end
section
variable{P:Program}{w:World}{H H':Hp}{h h':Heap}{a:Addr}{o:HO}
theorem ObjOk.lt(x:ObjOk P w H h a o):a<h.objs.size:=by
 cases o with
 |lst xs=>obtain⟨_,_,_,_,e⟩:=x;exact Heap.lt_size e
 |tup xs=>obtain⟨_,_,_,p⟩:=x;exact p.lt
 |dK kvs=>obtain⟨_,_,_,_,o,_,_,e,_⟩:=x;exact Heap.lt_size e
 |dT kvs=>obtain⟨_,_,_,_,o,_,_,e,_⟩:=x;exact Heap.lt_size e
 |set S n=>obtain⟨o,_,_,_,e,_⟩:=x;exact Heap.lt_size e
 |ins C dx fs=>obtain⟨_,_,_,e,_⟩:=x;exact Heap.lt_size e
 |own y=>obtain⟨_,e⟩:=x;exact Heap.lt_size e
 |xd fs=>obtain⟨_,⟨_,_,_,e,_⟩,_⟩:=x;exact Heap.lt_size e
 |rng lo hi=>obtain⟨_,_,_,e⟩:=x;exact Heap.lt_size e
 |frz ob u=>obtain⟨e,_⟩:=x;exact Heap.lt_size e
 |tbl ps=>exact Heap.lt_size (show h.get? a=some _ from x)
 |met f y=>exact Heap.lt_size (show h.get? a=some _ from x)
 |ext φ=>obtain⟨_,⟨_,e⟩,_⟩:=x;exact Heap.lt_size e
theorem Paired.mapP{α β:Type}{F G:α→β→Prop}:∀{l₁:List α} {l₂:List β},Paired F l₁ l₂→(∀a b,F a b→G a b)→Paired G l₁ l₂
 |_,_,.nil,_=>.nil
 |_,_,.cons r t,f=>.cons (f _ _ r) (Paired.mapP t f)
theorem ObjOk.stay(x:ObjOk P w H h a o)(k:∀b u,(b=a∨H b=some (.own a))→h.get? b=some u→h'.get? b=some u)
  (ho:∀b,H b=some (.own a)→H' b=some (.own a)) (ht:∀b xs,H b=some (.tup xs)→H' b=some (.tup xs)):ObjOk P w H' h' a o:=by
 induction o with
 |lst xs=>obtain⟨z,its,n,r,e⟩:=x;exact⟨z,its,n,r,k _ _ (.inl rfl) e⟩
 |tup xs=>obtain⟨z,its,r,ob,e,c⟩:=x;exact⟨z,its,r,ob,k _ _ (.inl rfl) e,c⟩
 |dK kvs=>obtain⟨z,y,vs,r,ob,es,ep,e,c⟩:=x;exact⟨z,y,vs,r,ob,es,ep,k _ _ (.inl rfl) e,c⟩
 |dT kvs=>
  refine byc fun zG=>?_
  obtain⟨z,y,xs,r,ob,es,ep,e,c⟩:=x
  refine zG ?_
  exact⟨z,y,xs,Paired.mapP r fun p q z=>⟨z.1,ht _ _ z.2.1,z.2.2⟩,ob,es,ep,k _ _ (.inl rfl) e,c⟩
 |set S n=>obtain⟨ob,es,ep,t,e,c⟩:=x;exact⟨ob,es,ep,t,k _ _ (.inl rfl) e,c⟩
 |ins C dx fs=>
  refine byc fun zG=>?_
  obtain⟨d,z,ne,e,mA,⟨od,es,ep,e2,c⟩,r⟩:=x
  refine zG ?_
  exact⟨ho _ d,z,ne,k _ _ (.inl rfl) e,mA,⟨od,es,ep,k _ _ (.inr d) e2,c⟩,r⟩
 |own y=>obtain⟨ob,e⟩:=x;exact⟨ob,k _ _ (.inl rfl) e⟩
 |xd fs=>obtain⟨mA,⟨od,es,ep,e,c⟩,r⟩:=x;exact⟨mA,⟨od,es,ep,k _ _ (.inl rfl) e,c⟩,r⟩
 |rng lo hi=>obtain⟨t,u,v,e⟩:=x;exact⟨t,u,v,k _ _ (.inl rfl) e⟩
 |frz ob u ih=>obtain⟨e,q⟩:=x;exact⟨k _ _ (.inl rfl) e,ih q⟩
 |tbl ps=>
  have e:h.get? a=some { cls:=.none,data:=.fields ps }:=x
  show h'.get? a=some { cls:=.none,data:=.fields ps }
  exact k a _ (.inl rfl) e
 |met f y=>
  have e:h.get? a=some (methodObj (.ref f) (.ref y)):=x
  show h'.get? a=some (methodObj (.ref f) (.ref y))
  exact k a _ (.inl rfl) e
 |ext φ=>obtain⟨p,⟨o,e⟩,st⟩:=x;exact⟨st _ _ p fun o q=>k _ _ (.inl rfl) q,⟨o,k _ _ (.inl rfl) e⟩,st⟩
theorem HOk.lt(x:HOk P w H h)(e:H a=some o):a<h.objs.size:=(x a o e).lt
theorem HOk.fresh(x:HOk P w H h)(e:h.objs.size≤a):H a=none:=by
 cases q:H a with
 |none=>rfl
 |some u=>exact absurd (lt_of_lt_of_le (x.lt q) e) (lt_irrefl _)
theorem HOk.kept(x:HOk P w H h)(k:∀b u,h.get? b=some u→h'.get? b=some u):HOk P w H h':=fun a o e=>
 (x a o e).stay (fun b u _ q=>k b u q) (fun _ q=>q) fun _ _ q=>q
theorem HOk.laid(x:HOk P w H h)(k:∀b u,h.get? b=some u→h'.get? b=some u)(hp:h.objs.size≤a)(new:ObjOk P w (upd H a o) h' a o):HOk P w (upd H a o) h':=fun b u e=>by
 have hn:=x.fresh hp
 by_cases hb:b=a
 ·subst hb;rw[zB] at e;cases e;exact new
 ·rw[zr hb] at e
  exact(x b u e).stay (fun c v _ q=>k c v q) (fun c q=>by rw[zr (zR q hn)];exact q) fun c xs q=>by rw[zr (zR q hn)];exact q
end
noncomputable def Rd(H:Hp)(a:Addr)(u:HO):Prop:=H a=some u∨∃o,H a=some (.frz o u)
theorem Rd.ok{P:Program}{w:World}{H:Hp}{h:Heap}{a:Addr}{u:HO}(r:Rd H a u)(x:HOk P w H h):ObjOk P w H h a u:=by
 rcases r with r|⟨o,r⟩
 ·exact x a u r
 ·obtain⟨_,q⟩:=x a _ r
  exact q
noncomputable def Mut:Option HO→Prop
 | some (.lst _)=>True
 | some (.dK _)=>True
 | some (.dT _)=>True
 | some (.set _ _)=>True
 | some (.ins _ _ _)=>True
 | some (.ext _)=>True
 |_=>False
section
variable{P:Program}{w:World}{H:Hp}{h h':Heap}{x e:Addr}{o':HO}
theorem HOk.write(ok:HOk P w H h)(mu:Mut (H x))(he:e=x∨H e=some (.own x))(k:∀b u,b≠e→h.get? b=some u→h'.get? b=some u)(heo:∃u,h'.get? e=some u)
  (new:ObjOk P w (upd H x o') h' x o'):HOk P w (upd H x o') h':=fun b u q=>by
 have nown:∀c y,H c=some (.own y)→c≠x:=fun c y r z=>by subst z;rw[r] at mu;exact mu
 have ntup:∀c xs,H c=some (.tup xs)→c≠x:=fun c xs r z=>by subst z;rw[r] at mu;exact mu
 by_cases hb:b=x
 ·subst hb;rw[zB] at q;cases q;exact new
 ·rw[zr hb] at q
  by_cases hbe:b=e
  ·have q':H b=some (.own x):=by
    rcases he with z|z
    ·exact absurd (hbe.trans z) hb
    ·rw[hbe];exact z
   rw[q] at q';cases q'
   obtain⟨v,hv⟩:=heo
   exact⟨v,by rw[hbe];exact hv⟩
  ·refine(ok b u q).stay (fun c v hc r=>k c v ?_ r) (fun c r=>by rw[zr (nown c b r)];exact r) fun c xs r=>by rw[zr (ntup c xs r)];exact r
   rcases hc with rfl|hc
   ·exact hbe
   ·rintro rfl
    rcases he with z|z
    ·exact nown c b hc z
    ·rw[hc] at z;cases z;exact hb rfl
end
structure Un(fs ex:List Addr)(H H':Hp)(h h':Heap):Prop where
 keep:∀b o,h.get? b=some o→H b=none→b∉fs→b∉ex→h'.get? b=some o
 slot:∀b o,h.get? b=some o→H b=none→b∈fs→b∉ex→∃sl,h'.get? b=some { o with slots:=sl }
 free:∀b o,h.get? b=some o→H b=none→b∉ex→H' b=none
 there:∀b o,h.get? b=some o→b∉ex→∃o',h'.get? b=some o'
 tups:∀b xs,H b=some (.tup xs)→H' b=some (.tup xs)
 frzs:∀b o u,H b=some (.frz o u)→H' b=some (.frz o u)
 tbls:∀b ps,H b=some (.tbl ps)→∃more,H' b=some (.tbl (ps++more))
section
variable{fs fs' ex ex':List Addr}{H H1 H2:Hp}{h h1 h2 h':Heap}{a x e:Addr}{o:HO}
theorem Un.any(u:Un fs ex H H1 h h1){b:Addr}{ob:Obj}(q:h.get? b=some ob)(n:H b=none)(hx:b∉ex):∃sl,h1.get? b=some { ob with slots:=sl }:=by
 by_cases hb:b∈fs
 ·exact u.slot b ob q n hb hx
 ·exact⟨ob.slots,u.keep b ob q n hb hx⟩
theorem Un.kept(k:∀b u,h.get? b=some u→h'.get? b=some u):Un fs ex H H h h':=
 ⟨fun b ob q _ _ _=>k b ob q,fun b ob q _ _ _=>⟨ob.slots,k b ob q⟩,fun _ _ _ n _=>n,fun b ob q _=>⟨ob,k b ob q⟩,fun _ _ q=>q,fun _ _ _ q=>q,fun _ ps q=>⟨#[],by rw[q];simp⟩⟩
theorem Un.refl:Un fs ex H H h h:=Un.kept fun _ _ q=>q
theorem Un.laid(k:∀b u,h.get? b=some u→h'.get? b=some u)(hp:h.objs.size≤a)(hn:H a=none):Un fs ex H (upd H a o) h h' where
 keep:=fun b u q _ _ _=>k b u q
 slot:=fun b u q _ _ _=>⟨u.slots,k b u q⟩
 free:=fun b u q n _=>by rw[zr (ne_of_lt (lt_of_lt_of_le (Heap.lt_size q) hp))];exact n
 there:=fun b u q _=>⟨u,k b u q⟩
 tups:=fun b xs q=>by rw[zr (zR q hn)];exact q
 frzs:=fun b u xs q=>by rw[zr (zR q hn)];exact q
 tbls:=fun b ps q=>⟨#[],by rw[zr (zR q hn),q];simp⟩
theorem Un.write(mu:Mut (H x))(he:e=x∨H e=some (.own x))(k:∀b u,b≠e→h.get? b=some u→h'.get? b=some u)(heo:∃u,h'.get? e=some u):Un fs ex H (upd H x o) h h':=by
 have hx:∀b,H b=none→b≠x:=fun b n z=>by subst z;rw[n] at mu;exact mu
 have hb:∀b,H b=none→b≠e:=fun b n z=>by
  subst z
  rcases he with r|r
  ·exact hx b n r
  ·rw[n] at r;cases r
 have hm:∀b u,H b=some u→¬ Mut (some u)→b≠x:=fun b u q nm z=>by subst z;rw[q] at mu;exact nm mu
 refine⟨fun b u q n _ _=>k b u (hb b n) q,fun b u q n _ _=>⟨u.slots,k b u (hb b n) q⟩,fun b u q n _=>by rw[zr (hx b n)];exact n,fun b u q _=>?_,
  fun b xs q=>by rw[zr (hm b _ q fun z=>z)];exact q,fun b u xs q=>by rw[zr (hm b _ q fun z=>z)];exact q,fun b ps q=>⟨#[],by rw[zr (hm b _ q fun z=>z),q];simp⟩⟩
 by_cases hbe:b=e
 ·subst hbe;exact heo
 ·exact⟨u,k b u hbe q⟩
end
noncomputable def trk(h:Heap)(H:Hp):List Addr:=(List.range h.objs.size).filter fun a=>(H a).isSome
noncomputable def Wd(h:Heap)(H:Hp):Heap:=PySem.W.hideAll h (trk h H)
theorem QI(h:Heap)(H:Hp):(Wd h H).objs.size=h.objs.size:=PySem.W.hideAll_size _ _
theorem Mz{h:Heap}{H:Hp}{b:Addr}{o:Obj}(e:h.get? b=some o)(n:H b=none):(Wd h H).get? b=some o:=
 PySem.W.hideAll_get _ e fun hm=>by
  have q:(H b).isSome=true:=(mem_filter.mp hm).2
  rw[n] at q;simp at q
theorem T8{h:Heap}{H:Hp}{b:Addr}{o:Obj}(e:(Wd h H).get? b=some o):h.get? b=some o∧H b=none:=by
 have e':h.get? b=some o:=PySem.W.of_hideAll (trk h H) e
 refine⟨e',?_⟩
 cases q:H b with
 |none=>rfl
 |some x=>
  have hm:b∈trk h H:=mem_filter.mpr ⟨mem_range.mpr (Heap.lt_size e'),by simp[q]⟩
  have z:(Wd h H).get? b=none:=PySem.W.hideAll_none (trk h H) hm
  rw[z] at e;cases e
noncomputable def LQ(g h:Heap)(L:Addr):List (Addr×Obj):=(List.range h.objs.size).filterMap fun a=>if a=L∨(g.get? a).isSome=true then none else (h.get? a).map fun o=>(a,o)
noncomputable def rest(g h:Heap)(L d:Addr):List (Addr×Obj):=(LQ g h L).filter fun p=>decide (p.1≠d)
structure Mod(K:Frag)(mg:Str→Option Value)(base:Heap):Prop where
 kin:K.In base
 glob:base.Ns mainGlobals mg
 blt:∃mb,base.Ns builtinsNs mb∧∀x:Str,x ≠ "__name__" → mb x=bootBuiltins x
 nolimit:base.NoLimit
structure Cx where
 prog:Program
 w:World
 K:Frag
 mg:Str→Option Value
 base:Heap
 A:Around
 N:List Str
 s₀:Shared
 H₀:Hp
 env:Env
 outer:List Env
 stack:List Env
 ex:List Addr
 fn:Str→Bool
 calm:Bool
 pn:List (Addr×Obj)
 xe:Value→Shared→Prop
noncomputable def frs(l:List Env):List Addr:=l.filterMap (·.frame)
noncomputable abbrev Cx.fs(X:Cx):List Addr:=frs X.outer
noncomputable def Vis(sc:Scope)(x:Str):Prop:=sc.names.lookup x=some .local∨sc.names.lookup x=some .cell∨sc.names.lookup x=some .free
noncomputable def Loc(sc:Scope)(x:Str):Prop:=sc.names.lookup x=some .local∨sc.names.lookup x=some .cell
noncomputable def Look(env:Env)(h:Heap)(m:Str→Option Value)(x:Str)(u:Value):Prop:=
 (env.kindOf x=some .local∧m x=some u)∨((env.kindOf x=some .cell∨env.kindOf x=some .free)∧∃c,env.cells.lookup x=some c∧h.IsCell c (some u))
structure Cx.Ok(X:Cx):Prop where
 mod:Mod X.K X.mg X.base
 kind:X.env.scope.kind=.function
 glob:X.env.globals=mainGlobals
 blt:X.env.builtins=builtinsNs
 above:X.s₀.heap.objs.size≤X.env.locals
 inj:∀x y c,X.env.cells.lookup x=some c→X.env.cells.lookup y=some c→x=y
 has:∀x,(X.env.kindOf x=some .cell∨X.env.kindOf x=some .free)→∃c,X.env.cells.lookup x=some c
 cab:∀x c,X.fn x=true→X.env.cells.lookup x=some c→X.s₀.heap.objs.size≤c
 hd:X.calm=true→X.A.handled=none
 frames:X.A.frames=some X.stack
 stk:X.stack=X.outer∨(X.stack=X.env::X.outer∧X.env.frame=some X.env.locals)
 exf:∀b∈X.ex,b≠X.env.locals∧∀x c,X.env.cells.lookup x=some c→c≠b
 bs:∀b o,X.base.get? b=some o→X.s₀.heap.get? b=some o∧X.H₀ b=none
 bsz:X.base.objs.size≤X.s₀.heap.objs.size
 noex:∀b o,X.base.get? b=some o→b∉X.ex
 exfs:∀b∈X.ex,b∉X.fs
 funs:X.s₀.heap.FunFrames X.base X.outer
 frf:∀b∈X.fs,X.H₀ b=none
structure Inv(X:Cx)(pins:List (Addr×Obj))(σ:List (Option V))(H:Hp)(s:Shared):Prop where
 ok:X.Ok
 os:s.os=X.s₀.os
 bare:AllBare s.gens
 base:Un X.fs X.ex X.H₀ H X.s₀.heap s.heap
 loc:∃m,s.heap.Ns X.env.locals m∧∀(i:Nat) (x:Str) (v:V),X.N[i]?=some x→σ[i]?=some (some v)→Vis X.env.scope x→∃u,RelV v u∧Look X.env s.heap m x u
 cell:∀x c,X.env.cells.lookup x=some c→∃v,s.heap.IsCell c v
 free:H X.env.locals=none
 freeC:∀x c,X.env.cells.lookup x=some c→H c=none
 pin:∀p∈X.pn++pins,s.heap.get? p.1=some p.2∧H p.1=none∧p.1≠X.env.locals∧p.1∉X.fs∧∀v,p.2.data≠.cell v
 hok:HOk X.prog X.w H s.heap
 len:σ.length=X.N.length
section
variable{X:Cx}{pins:List (Addr×Obj)}{σ:List (Option V)}{H H':Hp}{s:Shared}{h':Heap}
theorem Cx.Ok.nofr(ok:X.Ok){b:Addr}{o:Obj}(e:X.base.get? b=some o):b∉X.fs:=fun hb=>by
 have:=(ok.funs.mem hb).1
 rw[e] at this;cases this
theorem Inv.bs(I:Inv X pins σ H s):∀b o,X.base.get? b=some o→s.heap.get? b=some o∧H b=none:=fun b o e=>
 ⟨I.base.keep b o (I.ok.bs b o e).1 (I.ok.bs b o e).2 (I.ok.nofr e) (I.ok.noex b o e),I.base.free b o (I.ok.bs b o e).1 (I.ok.bs b o e).2 (I.ok.noex b o e)⟩
theorem Inv.bk(I:Inv X pins σ H s):∀b o,X.base.get? b=some o→s.heap.get? b=some o:=fun b o e=>(I.bs b o e).1
theorem Inv.mod(I:Inv X pins σ H s):Mod X.K X.mg X.base:=I.ok.mod
theorem Inv.kIn(I:Inv X pins σ H s):X.K.In s.heap:=I.ok.mod.kin.keeps I.bk
theorem Inv.lt(I:Inv X pins σ H s):X.env.locals<s.heap.objs.size:=let ⟨_,hn,_⟩:=I.loc;hn.lt
theorem Inv.sz(I:Inv X pins σ H s):X.s₀.heap.objs.size≤s.heap.objs.size:=le_trans I.ok.above (le_of_lt I.lt)
theorem Inv.nofs(I:Inv X pins σ H s){a:Addr}(h:s.heap.objs.size≤a):a∉X.fs:=fun hb=>by
 refine byc fun zG=>?_
 obtain⟨_,o,ho,_⟩:=I.ok.funs.mem hb
 refine zG ?_
 exact absurd (lt_of_lt_of_le (Heap.lt_size ho) (le_trans I.sz h)) (lt_irrefl _)
theorem Inv.cne(I:Inv X pins σ H s):∀x c,X.env.cells.lookup x=some c→c≠X.env.locals:=fun x c e z=>by
 refine byc fun zG=>?_
 obtain⟨v,o,ho,hd⟩:=I.cell x c e
 obtain⟨m,⟨o',es,ep,ho',hd',_⟩,_⟩:=I.loc
 refine zG ?_
 rw[z,ho'] at ho;cases ho;rw[hd'] at hd;cases hd
theorem Inv.funs(I:Inv X pins σ H s):s.heap.FunFrames X.base X.outer:=by
 have all:∀(l:List Env),(∀b∈frs l,b∈X.fs)→X.s₀.heap.FunFrames X.base l→s.heap.FunFrames X.base l:=by
  intro l
  induction l with
  |nil=>intro _ _;trivial
  |cons env r ih=>
   intro hs hl
   refine byc fun zG=>?_
   obtain⟨hk,⟨L,o,hf,hn,ho,hd⟩,hr⟩:=hl
   have hL:L∈X.fs:=hs L (by unfold frs;rw[List.filterMap_cons,hf];exact mem_cons_self)
   obtain⟨sl,e⟩:=I.base.slot L o ho (I.ok.frf L hL) hL fun z=>I.ok.exfs L z hL
   refine zG ?_
   exact⟨hk,⟨L,_,hf,hn,e,hd⟩,ih (fun b hb=>hs b (by unfold frs;rw[List.filterMap_cons,hf];exact mem_cons_of_mem _ hb)) hr⟩
 exact all X.outer (fun _ hb=>hb) I.ok.funs
theorem Inv.stack(I:Inv X pins σ H s):s.heap.FunFrames X.base X.stack:=by
 rcases I.ok.stk with e|⟨e,hf⟩
 ·rw[e];exact I.funs
 ·rw[e]
  obtain⟨m,hn,_⟩:=I.loc
  refine .cons (by rw[I.ok.kind];decide) hf hn ?_ I.funs
  exact Heap.get?_none_of_le (le_trans I.ok.bsz I.ok.above)
theorem Inv.stkSub(I:Inv X pins σ H s):∀b∈frs X.stack,b∈X.env.locals::X.fs:=fun b hb=>by
 rcases I.ok.stk with e|⟨e,hf⟩
 ·rw[e] at hb;exact mem_cons_of_mem _ hb
 ·rw[e] at hb
  unfold frs at hb
  rw[List.filterMap_cons,hf] at hb
  exact hb
theorem Inv.stkFree(I:Inv X pins σ H s):∀b∈frs X.stack,H b=none:=fun b hb=>by
 rcases mem_cons.mp (I.stkSub b hb) with e|hb
 ·rw[e];exact I.free
 ·refine byc fun zG=>?_
  obtain⟨_,o,ho,_⟩:=I.ok.funs.mem hb
  refine zG ?_
  exact I.base.free b o ho (I.ok.frf b hb) fun z=>I.ok.exfs b z hb
theorem Inv.step{g':Array GenState}{t':Nat}{d':Drawn}{ch:List Addr}(I:Inv X pins σ H s)
  (hch:∀b∈ch,(b∈X.ex∨X.s₀.heap.objs.size≤b)∧b≠X.env.locals∧(∀x c,X.env.cells.lookup x=some c→c≠b)∧∀p∈X.pn++pins,p.1≠b)
  (keep:∀b o,b≠X.env.locals→b∉X.fs→b∉ch→s.heap.get? b=some o→H b=none→h'.get? b=some o)
  (slot:∀b o,b≠X.env.locals→b∈X.fs→b∉ch→s.heap.get? b=some o→H b=none→∃sl,h'.get? b=some { o with slots:=sl }) (free:∀b o,b∉ch→s.heap.get? b=some o→H b=none→H' b=none)
  (there:∀b o,b∉ch→s.heap.get? b=some o→∃o',h'.get? b=some o')
  (tups:∀b xs,H b=some (.tup xs)→H' b=some (.tup xs)) (frzs:∀b o u,H b=some (.frz o u)→H' b=some (.frz o u)) (tbls:∀b ps,H b=some (.tbl ps)→∃more,H' b=some (.tbl (ps++more)))
  (ns:∀m,s.heap.Ns X.env.locals m→h'.Ns X.env.locals m) (hok:HOk X.prog X.w H' h') (hg:AllBare g') :
  Inv X pins σ H' { s with heap:=h',gens:=g',drawn:=d',toks:=t' }:=by
 have neL:∀b o,X.s₀.heap.get? b=some o→b≠X.env.locals:=fun b o e=>ne_of_lt (lt_of_lt_of_le (Heap.lt_size e) I.ok.above)
 have neC:∀b o,X.s₀.heap.get? b=some o→b∉X.ex→b∉ch:=fun b o e hx hb=>by
  rcases (hch b hb).1 with z|z
  ·exact hx z
  ·exact absurd (lt_of_lt_of_le (Heap.lt_size e) z) (lt_irrefl _)
 have cellK:∀x c,X.env.cells.lookup x=some c→∀v,s.heap.IsCell c v→h'.IsCell c v:=fun x c e v z_=>by
  obtain⟨o,ho,hd⟩:=z_
  have nch:c∉ch:=fun z=>(hch c z).2.2.1 x c e rfl
  by_cases hc:c∈X.fs
  ·obtain⟨sl,q⟩:=slot c o (I.cne x c e) hc nch ho (I.freeC x c e)
   exact⟨_,q,hd⟩
  ·exact⟨o,keep c o (I.cne x c e) hc nch ho (I.freeC x c e),hd⟩
 refine⟨I.ok,I.os,hg,⟨fun b o e n hb hx=>?_,fun b o e n hb hx=>?_,fun b o e n hx=>?_,fun b o e hx=>?_,fun b xs e=>tups b xs (I.base.tups b xs e),fun b o xs e=>frzs b o xs (I.base.frzs b o xs e),fun b ps e=>?_⟩,?_,fun x c e=>?_,?_,fun x c e=>?_,fun p hp=>?_,hok,I.len⟩
 ·exact keep b o (neL b o e) hb (neC b o e hx) (I.base.keep b o e n hb hx) (I.base.free b o e n hx)
 ·obtain⟨sl,e1⟩:=I.base.slot b o e n hb hx
  obtain⟨sl',e2⟩:=slot b _ (neL b o e) hb (neC b o e hx) e1 (I.base.free b o e n hx)
  exact⟨sl',e2⟩
 ·obtain⟨o',e1⟩:=I.base.there b o e hx
  exact free b o' (neC b o e hx) e1 (I.base.free b o e n hx)
 ·obtain⟨o',e1⟩:=I.base.there b o e hx
  exact there b o' (neC b o e hx) e1
 ·obtain⟨m1,e1⟩:=I.base.tbls b ps e
  obtain⟨m2,e2⟩:=tbls b _ e1
  exact⟨m1++m2,by rw[e2,Array.append_assoc]⟩
 ·obtain⟨m,hn,hl⟩:=I.loc
  refine⟨m,ns m hn,fun i x v e1 e2 e3=>?_⟩
  obtain⟨u,r,l⟩:=hl i x v e1 e2 e3
  refine⟨u,r,?_⟩
  rcases l with l|⟨k,c,e,z⟩
  ·exact .inl l
  ·exact .inr ⟨k,c,e,cellK x c e _ z⟩
 ·obtain⟨v,z⟩:=I.cell x c e
  exact⟨v,cellK x c e v z⟩
 ·refine byc fun zG=>?_
  obtain⟨m,⟨o,_,_,ho,_⟩,_⟩:=I.loc
  refine zG ?_
  exact free _ o (fun z=>(hch _ z).2.1 rfl) ho I.free
 ·refine byc fun zG=>?_
  obtain⟨v,o,ho,hd⟩:=I.cell x c e
  refine zG ?_
  exact free c o (fun z=>(hch c z).2.2.1 x c e rfl) ho (I.freeC x c e)
 ·refine byc fun zG=>?_
  obtain⟨e,n,ne,nf,d⟩:=I.pin p hp
  refine zG ?_
  have nch:p.1∉ch:=fun z=>(hch p.1 z).2.2.2 p hp rfl
  exact⟨keep p.1 p.2 ne nf nch e n,free p.1 p.2 nch e n,ne,nf,d⟩
theorem Inv.un{t':Nat}(I:Inv X pins σ H s)(u:Un X.fs [] H H' s.heap h')(hok:HOk X.prog X.w H' h'):Inv X pins σ H' { s with heap:=h',toks:=t' }:=by
 refine byc fun zG=>?_
 obtain⟨m,⟨o,es,ep,ho,r⟩,_⟩:=id I.loc
 obtain⟨sl,hL⟩:=u.any ho I.free (by simp)
 refine zG ?_
 exact I.step (g':=s.gens) (d':=s.drawn) (ch:=[]) (fun _ z=>nomatch z) (fun b o _ hb _ e n=>u.keep b o e n hb (by simp)) (fun b o _ hb _ e n=>u.slot b o e n hb (by simp)) (fun b o _ e n=>u.free b o e n (by simp)) (fun b o _ e=>u.there b o e (by simp)) u.tups u.frzs u.tbls (fun m' hm=>by
  refine byc fun zG=>?_
  obtain⟨o',es',ep',ho',r'⟩:=hm
  refine zG ?_
  rw[ho] at ho';cases ho'
  exact⟨_,es',ep',hL,r'⟩) hok I.bare
theorem Inv.call{g':Array GenState}{t':Nat}{d':Drawn}{ch:List Addr}(I:Inv X pins σ H s)(u:Un (frs X.stack) ch H H' s.heap h')(hok:HOk X.prog X.w H' h')(hg:AllBare g')
  (hch:∀b∈ch,(b∈X.ex∨X.s₀.heap.objs.size≤b)∧b≠X.env.locals∧(∀x c,X.env.cells.lookup x=some c→c≠b)∧∀p∈X.pn++pins,p.1≠b) :
  Inv X pins σ H' { s with heap:=h',gens:=g',drawn:=d',toks:=t' }:=by
 refine byc fun zG=>?_
 obtain⟨m,⟨o,es,ep,ho,r⟩,_⟩:=id I.loc
 obtain⟨sl,hL⟩:=u.any ho I.free fun z=>(hch _ z).2.1 rfl
 refine zG ?_
 exact I.step (ch:=ch) hch (fun b o hL hb hc e n=>u.keep b o e n (fun z=>(mem_cons.mp (I.stkSub b z)).elim hL hb) hc) (fun b o _ _ hc e n=>u.any e n hc) (fun b o hc e n=>u.free b o e n hc) (fun b o hc e=>u.there b o e hc) u.tups u.frzs u.tbls (fun m' hm=>by
  refine byc fun zG=>?_
  obtain⟨o',es',ep',ho',r'⟩:=hm
  refine zG ?_
  rw[ho] at ho';cases ho'
  exact⟨_,es',ep',hL,r'⟩) hok hg
theorem Inv.turned{t':Nat}{it:Addr}(I:Inv X pins σ H s)(k:∀b o,b≠it→s.heap.get? b=some o→h'.get? b=some o)(hn:H it=none)(hL:it≠X.env.locals)
  (h1:it∈X.ex∨X.s₀.heap.objs.size≤it) (h2:∀x c,X.env.cells.lookup x=some c→c≠it) (h3:∀p∈X.pn++pins,p.1≠it):Inv X pins σ H { s with heap:=h',toks:=t' }:=by
 have nit:∀b u,H b=some u→b≠it:=fun b u e z=>by rw[z,hn] at e;cases e
 refine I.step (g':=s.gens) (d':=s.drawn) (ch:=[it]) (fun b hb=>?_) (fun b o _ _ hc e _=>k b o (fun z=>hc (by simp[z])) e) (fun b o _ _ hc e _=>⟨o.slots,k b o (fun z=>hc (by simp[z])) e⟩) (fun _ _ _ _ n=>n)
  (fun b o hc e=>⟨o,k b o (fun z=>hc (by simp[z])) e⟩) (fun _ _ e=>e) (fun _ _ _ e=>e) (fun b ps e=>⟨#[],by rw[e];simp⟩) (fun m hm=>?_) (fun b u e=>?_) I.bare
 ·have e:b=it:=by simpa using hb
  subst e
  exact⟨h1,hL,h2,h3⟩
 ·refine byc fun zG=>?_
  obtain⟨o,es,ep,ho,r⟩:=hm
  refine zG ?_
  exact⟨o,es,ep,k _ o (Ne.symm hL) ho,r⟩
 ·refine(I.hok b u e).stay (fun c v hc q=>k c v ?_ q) (fun _ q=>q) fun _ _ q=>q
  rcases hc with z|z
  ·rw[z];exact nit b u e
  ·exact nit c _ z
theorem Inv.tok(I:Inv X pins σ H s)(t:Nat):Inv X pins σ H { s with toks:=t }:=I.un (h':=s.heap) (t':=t) Un.refl I.hok
theorem Inv.kept{t':Nat}(I:Inv X pins σ H s)(k:∀b u,s.heap.get? b=some u→h'.get? b=some u):Inv X pins σ H { s with heap:=h',toks:=t' }:=I.un (Un.kept k) (I.hok.kept k)
theorem Inv.laid{a:Addr}{o:HO}{t':Nat}(I:Inv X pins σ H s)(k:∀b u,s.heap.get? b=some u→h'.get? b=some u)(hp:s.heap.objs.size≤a)(new:ObjOk X.prog X.w (upd H a o) h' a o) :
  Inv X pins σ (upd H a o) { s with heap:=h',toks:=t' }:=I.un (Un.laid k hp (I.hok.fresh hp)) (I.hok.laid k hp new)
theorem Inv.write{x e:Addr}{o:HO}{t':Nat}(I:Inv X pins σ H s)(mu:Mut (H x))(he:e=x∨H e=some (.own x))(k:∀b u,b≠e→s.heap.get? b=some u→h'.get? b=some u)(heo:∃u,h'.get? e=some u)
  (new:ObjOk X.prog X.w (upd H x o) h' x o):Inv X pins σ (upd H x o) { s with heap:=h',toks:=t' }:=I.un (Un.write mu he k heo) (I.hok.write mu he k heo new)
theorem Inv.pins_of{pins':List (Addr×Obj)}(I:Inv X pins σ H s)(h:∀p∈pins',s.heap.get? p.1=some p.2∧H p.1=none∧p.1≠X.env.locals∧p.1∉X.fs∧∀v,p.2.data≠.cell v):Inv X pins' σ H s:=
 ⟨I.ok,I.os,I.bare,I.base,I.loc,I.cell,I.free,I.freeC,fun p hp=>(mem_append.mp hp).elim (fun z=>I.pin p (mem_append_left _ z)) (h p),I.hok,I.len⟩
theorem V8{N:List Str}(hN:N.Nodup){i j:Nat}{x:Str}(a:N[i]?=some x)(b:N[j]?=some x):i=j:=by
 obtain⟨h1,e1⟩:=List.getElem?_eq_some_iff.mp a
 obtain⟨h2,e2⟩:=List.getElem?_eq_some_iff.mp b
 exact(List.getElem_inj hN).mp (e1.trans e2.symm)
theorem Wk{M:Model}{A:Around}{E:Value→Shared→Prop}{i:Nat}{x:Str}{v:V}{u:Value}{Q:Unit→Shared→Prop}(I:Inv X pins σ H s)(hN:X.N.Nodup)(hi:X.N[i]?=some x)(hx:Loc X.env.scope x)(r:RelV v u)
  (h:∀s',Inv X pins (σ.set i (some v)) H s'→(∃a,Heap.SameBut a s.heap s'.heap∧(a=X.env.locals∨X.env.cells.lookup x=some a))→Q () s') (hf:X.fn x=true∨X.env.scope.names.lookup x=some .local:=by first|exact .inl rfl|exact .inr rfl|assumption):wpAny M A (storeName X.env x u) Q E s:=by
 obtain⟨m,hn,hl⟩:=id I.loc
 have hcls:(X.env.scope.kind == .class||(X.env.scope.kind == .module&&X.env.locals != X.env.globals))=false:=by rw[I.ok.kind];rfl
 have hiσ:i<σ.length:=by rw[I.len];exact(List.getElem?_eq_some_iff.mp hi).1
 have cne:=I.cne
 have tracked:∀{a:Addr} {h':Heap},(∃o,s.heap.get? a=some o∧H a=none)→Heap.SameBut a s.heap h'→HOk X.prog X.w H h':=fun {a h'} ha hs b ob e=>by
  obtain⟨_,_,hfree⟩:=ha
  refine(I.hok b ob e).stay (fun c w' hc q=>(hs.2 c ?_).trans q) (fun _ q=>q) fun _ _ q=>q
  rintro rfl
  rcases hc with rfl|hc
  ·rw[hfree] at e;cases e
  ·rw[hfree] at hc;cases hc
 rcases hx with hk|hk
 ·refine wpAny_storeName_local hk hn (fun h' hn' hs=>?_) hcls
  refine byc fun zG=>?_
  obtain⟨oL,_,_,hoL,_⟩:=id hn
  refine zG ?_
  refine h _ ⟨I.ok,I.os,I.bare,⟨fun b o e n hb hx=>?_,fun b o e n hb hx=>?_,I.base.free,fun b o e hx=>?_,I.base.tups,I.base.frzs,I.base.tbls⟩,⟨_,hn',fun j y v' e1 e2 e3=>?_⟩,fun y c e=>?_,I.free,I.freeC,fun p hp=>?_,tracked ⟨oL,hoL,I.free⟩ hs,by simpa using I.len⟩ ⟨_,hs,.inl rfl⟩
  ·exact(hs.2 b (ne_of_lt (lt_of_lt_of_le (Heap.lt_size e) I.ok.above))).trans (I.base.keep b o e n hb hx)
  ·obtain⟨sl,e1⟩:=I.base.slot b o e n hb hx
   exact⟨sl,(hs.2 b (ne_of_lt (lt_of_lt_of_le (Heap.lt_size e) I.ok.above))).trans e1⟩
  ·obtain⟨o',e1⟩:=I.base.there b o e hx
   exact⟨o',(hs.2 b (ne_of_lt (lt_of_lt_of_le (Heap.lt_size e) I.ok.above))).trans e1⟩
  ·by_cases hj:j=i
   ·subst hj
    rw[hi] at e1;cases e1
    rw[getElem?_set_self hiσ] at e2
    cases e2
    exact⟨u,r,.inl ⟨hk,by simp⟩⟩
   ·rw[getElem?_set_ne (Ne.symm hj)] at e2
    obtain⟨u',r',q⟩:=hl j y v' e1 e2 e3
    refine⟨u',r',?_⟩
    rcases q with ⟨k,e⟩|⟨k,c,e,z⟩
    ·refine .inl ⟨k,?_⟩
     have:y≠x:=fun e=>hj (V8 hN e1 (e ▸ hi))
     simp[this,e]
    ·exact .inr ⟨k,c,e,z.sameBut hs (cne y c e)⟩
  ·obtain⟨w',z⟩:=I.cell y c e
   exact⟨w',z.sameBut hs (cne y c e)⟩
  ·refine byc fun zG=>?_
   obtain⟨e,n,ne,nf,d⟩:=I.pin p hp
   refine zG ?_
   exact⟨(hs.2 p.1 ne).trans e,n,ne,nf,d⟩
 ·have hfn:X.fn x=true:=by
   rcases hf with z|z
   ·exact z
   ·rw[z] at hk;cases hk
  obtain⟨c,hc⟩:=I.ok.has x (.inl hk)
  obtain⟨w',z⟩:=I.cell x c hc
  refine wpAny_storeName_cell I.ok.kind hk hc z (fun h' hc' hs=>?_)
  obtain⟨oc,hoc,hocd⟩:=id z
  refine h { s with heap:=h' } ⟨I.ok,I.os,I.bare,⟨fun b o e n hb hx=>?_,fun b o e n hb hx=>?_,I.base.free,fun b o e hx=>?_,I.base.tups,I.base.frzs,I.base.tbls⟩,⟨m,hn.sameBut hs (Ne.symm (cne x c hc)),fun j y v' e1 e2 e3=>?_⟩,fun y c' e=>?_,I.free,I.freeC,fun p hp=>?_,tracked ⟨oc,hoc,I.freeC x c hc⟩ hs,by simpa using I.len⟩ ⟨c,hs,.inr hc⟩
  ·exact(hs.2 b (ne_of_lt (lt_of_lt_of_le (Heap.lt_size e) (I.ok.cab x c hfn hc)))).trans (I.base.keep b o e n hb hx)
  ·obtain⟨sl,e1⟩:=I.base.slot b o e n hb hx
   exact⟨sl,(hs.2 b (ne_of_lt (lt_of_lt_of_le (Heap.lt_size e) (I.ok.cab x c hfn hc)))).trans e1⟩
  ·obtain⟨o',e1⟩:=I.base.there b o e hx
   exact⟨o',(hs.2 b (ne_of_lt (lt_of_lt_of_le (Heap.lt_size e) (I.ok.cab x c hfn hc)))).trans e1⟩
  ·by_cases hj:j=i
   ·subst hj
    rw[hi] at e1;cases e1
    rw[getElem?_set_self hiσ] at e2
    cases e2
    exact⟨u,r,.inr ⟨.inl hk,c,hc,hc'⟩⟩
   ·rw[getElem?_set_ne (Ne.symm hj)] at e2
    obtain⟨u',r',q⟩:=hl j y v' e1 e2 e3
    refine⟨u',r',?_⟩
    rcases q with q|⟨k,c',e,z'⟩
    ·exact .inl q
    ·refine .inr ⟨k,c',e,z'.sameBut hs ?_⟩
     rintro rfl
     exact hj (V8 hN e1 (I.ok.inj _ _ _ e hc ▸ hi))
  ·by_cases hcc:c'=c
   ·subst hcc;exact⟨_,hc'⟩
   ·obtain⟨w2,z2⟩:=I.cell y c' e
    exact⟨w2,z2.sameBut hs hcc⟩
  ·refine byc fun zG=>?_
   obtain⟨e,n,ne,nf,d⟩:=I.pin p hp
   refine zG ?_
   refine⟨(hs.2 p.1 ?_).trans e,n,ne,nf,d⟩
   intro q
   rw[q,hoc] at e
   have q':oc=p.2:=Option.some.inj e
   exact d w' (by rw[← q'];exact hocd)
theorem VM{M:Model}{A:Around}{E:Value→Shared→Prop}{i:Nat}{x:Str}{v:V}{u:Value}{Q:Unit→Shared→Prop}(I:Inv X pins σ H s)(hN:X.N.Nodup)(hi:X.N[i]?=some x)(hx:Loc X.env.scope x)(r:RelV v u)
  (h:∀s',Inv X pins (σ.set i (some v)) H s'→Q () s') (hf:X.fn x=true∨X.env.scope.names.lookup x=some .local:=by first|exact .inl rfl|exact .inr rfl|assumption):wpAny M A (storeName X.env x u) Q E s:=
 Wk I hN hi hx r (fun s' I' _=>h s' I') hf
theorem Inv.call'{s':Shared}{ch:List Addr}(I:Inv X pins σ H s)(ho:s'.os=s.os)(u:Un (frs X.stack) ch H H' s.heap s'.heap)(hok:HOk X.prog X.w H' s'.heap)(hg:AllBare s'.gens)
  (hch:∀b∈ch,(b∈X.ex∨X.s₀.heap.objs.size≤b)∧b≠X.env.locals∧(∀x c,X.env.cells.lookup x=some c→c≠b)∧∀p∈X.pn++pins,p.1≠b):Inv X pins σ H' s':=by
 refine byc fun zG=>?_
 obtain⟨h',g',d',t',o'⟩:=s'
 refine zG ?_
 have e:o'=s.os:=ho
 subst e
 exact I.call (g':=g') (t':=t') (d':=d') u hok hg hch
end
noncomputable abbrev XK:=Value→Option Addr→Hp→Prop
noncomputable abbrev St:=List (Option V)
noncomputable abbrev VK:=V→Hp→Prop
noncomputable abbrev TE:=St→Hp→VK→Prop
noncomputable abbrev TT:=St→Hp→(Bool→Hp→Prop)→Prop
noncomputable abbrev TA:=St→Hp→(List V→Hp→Prop)→Prop
structure VE where
 nx:St→Hp→Prop
 rt:VK
 bk:St→Hp→Prop:=fun _ _=>False
 ct:St→Hp→Prop:=fun _ _=>False
noncomputable abbrev TS:=VE→St→Hp→Prop
noncomputable def EP(X:Cx)(pins:List (Addr×Obj))(σ:St)(Q:VK)(u:Value)(s':Shared):Prop:=∃v H',Inv X pins σ H' s'∧RelV v u∧Q v H'
noncomputable def TP(X:Cx)(pins:List (Addr×Obj))(σ:St)(Q:Bool→Hp→Prop)(b:Bool)(s':Shared):Prop:=∃H',Inv X pins σ H' s'∧Q b H'
noncomputable def AP(X:Cx)(pins:List (Addr×Obj))(σ:St)(Q:List V→Hp→Prop)(us:List Value)(s':Shared):Prop:=∃vs H',Inv X pins σ H' s'∧Vals vs us∧Q vs H'
noncomputable def SP(X:Cx)(pins:List (Addr×Obj))(D:VE)(f:Flow)(s':Shared):Prop:=
 match f with
 |.next=>∃σ' H',Inv X pins σ' H' s'∧D.nx σ' H'
 |.brk=>∃σ' H',Inv X pins σ' H' s'∧D.bk σ' H'
 |.cont=>∃σ' H',Inv X pins σ' H' s'∧D.ct σ' H'
 |.ret u=>∃v σ' H',Inv X pins σ' H' s'∧RelV v u∧D.rt v H'
noncomputable def PE(X:Cx)(e:Expr)(t:TE):Prop:=
 ∀(pins:List (Addr×Obj)) (s:Shared) (σ:St) (H:Hp) (Q:VK),Inv X pins σ H s→t σ H Q→wpAny (model X.prog X.w) X.A (eval e X.env) (EP X pins σ Q) X.xe s
noncomputable def PT(X:Cx)(e:Expr)(t:TT):Prop:=
 ∀(pins:List (Addr×Obj)) (s:Shared) (σ:St) (H:Hp) (Q:Bool→Hp→Prop),Inv X pins σ H s→t σ H Q→wpAny (model X.prog X.w) X.A (isTrue e X.env (eval e X.env)) (TP X pins σ Q) X.xe s
noncomputable def PW(X:Cx)(e:Expr)(t:TT):Prop:=
 ∀(whole:Sem Value) (pins:List (Addr×Obj)) (s:Shared) (σ:St) (H:Hp) (Q:Bool→Hp→Prop),Inv X pins σ H s→t σ H Q→wpAny (model X.prog X.w) X.A (isTrue e X.env whole) (TP X pins σ Q) X.xe s
theorem PW.pt{X:Cx}{e:Expr}{t:TT}(h:PW X e t):PT X e t:=h _
noncomputable def PA(X:Cx)(es:List Expr)(t:TA):Prop:=
 ∀(pos:Pos) (pins:List (Addr×Obj)) (s:Shared) (σ:St) (H:Hp) (Q:List V→Hp→Prop),Inv X pins σ H s→t σ H Q→wpAny (model X.prog X.w) X.A (spliced (backTo pos (starEach es X.env))) (AP X pins σ Q) X.xe s
noncomputable def PS(X:Cx)(st:Stmt)(t:TS):Prop:=
 ∀(pins:List (Addr×Obj)) (s:Shared) (σ:St) (H:Hp) (D:VE),Inv X pins σ H s→t D σ H→wpAny (model X.prog X.w) X.A (exec st X.env) (SP X pins D) X.xe s
noncomputable def PSs(X:Cx)(st:List Stmt)(t:TS):Prop:=
 ∀(pins:List (Addr×Obj)) (s:Shared) (σ:St) (H:Hp) (D:VE),Inv X pins σ H s→t D σ H→wpAny (model X.prog X.w) X.A (execs st X.env) (SP X pins D) X.xe s
theorem thn{α:Type}{t:Sem α}{Q Q':α→Shared→Prop}{M:Model}{A:Around}{E:Value→Shared→Prop}{s:Shared}(h:wpAny M A t Q E s)(hQ:∀a s,Q a s→Q' a s):wpAny M A t Q' E s:=wpAny_mono h hQ fun _ _ x=>x
section
variable{X:Cx}
noncomputable def wN(i:Nat):TE:=fun σ H Q=>∃v,σ[i]?=some (some v)∧Q v H
noncomputable def tC(v:V):TE:=fun _ H Q=>Q v H
theorem zc1{i:Nat}{x:Str}{pos:Pos}(hN:X.N[i]?=some x)(hv:Vis X.env.scope x)(hd:(x==("__debug__" : Str))=false:=by decide)(hcd:(x==("__classdict__" : Str))=false:=by decide):PE X (.Name x pos) (wN i):=by
 intro pins s σ H Q I h
 refine byc fun zG=>?_
 obtain⟨v,e,h⟩:=h
 obtain⟨m,hn,hl⟩:=I.loc
 obtain⟨u,r,l⟩:=hl i x v hN e hv
 refine zG ?_
 have fin:EP X pins σ Q u s:=⟨v,H,I,r,h⟩
 rcases l with ⟨hk,hm⟩|⟨hk,c,hc,hcell⟩
 ·exact wpAny_Name (wpAny_loadName_local I.ok.kind hk hn hm fin) hd
 ·rcases hk with hk|hk
  ·exact wpAny_Name (wpAny_loadName_cell I.ok.kind hk hc hcell fin) hd
  ·exact wpAny_Name (wpAny_loadName_free I.ok.kind hk hc hcell fin hcd) hd
theorem zc6{i j pos}:PE X (.Constant (.int i) j pos) (tC (.int i)):=fun _ _ _ H _ I h=>wpAny_Constant_int ⟨.int i,H,I.tok _,⟨_,rfl⟩,h⟩
theorem pe_bl{b j pos}:PE X (.Constant (.bool b) j pos) (tC (.bl b)):=fun _ _ _ H _ I h=>Constant_bool ⟨.bl b,H,I,rfl,h⟩
theorem zc5{j pos}:PE X (.Constant .none j pos) (tC .non):=fun _ _ _ H _ I h=>Constant_none ⟨.non,H,I,rfl,h⟩
theorem zc3{x j pos}:PE X (.Constant (.str x) j pos) (tC (.str x)):=fun _ _ _ H _ I h=>Calls.Constant_str ⟨.str x,H,I.tok _,⟨_,rfl⟩,h⟩
noncomputable def Gl(X:Cx)(x:Str):Prop:=X.env.kindOf x=some .globalImplicit
theorem Vk{E:Value→Shared→Prop}{pins:List (Addr×Obj)}{s:Shared}{σ:St}{H:Hp}{x:Str}{u:Value}{pos:Pos}{Q:Value→Shared→Prop}(I:Inv X pins σ H s)(hg:Gl X x)(hm:X.mg x=some u)(h:Q u s)
  (hd:(x==("__debug__" : Str))=false:=by decide):wpAny (model X.prog X.w) X.A (eval (.Name x pos) X.env) Q E s:=
 Calls.Name_function_global I.ok.kind hg (Calls.loadGlobal_global (by rw[I.ok.glob];exact I.mod.glob.keeps I.bk) hm h) hd
theorem u9{E:Value→Shared→Prop}{pins:List (Addr×Obj)}{s:Shared}{σ:St}{H:Hp}{x:Str}{u:Value}{pos:Pos}{Q:Value→Shared→Prop}(I:Inv X pins σ H s)(hg:Gl X x)(hm:X.mg x=none)(hv:bootBuiltins x=some u)(h:Q u s)
  (hn:x ≠ "__name__" := by decide) (hd:(x==("__debug__" : Str))=false:=by decide):wpAny (model X.prog X.w) X.A (eval (.Name x pos) X.env) Q E s:=by
 obtain⟨mb,h1,h2⟩:=I.mod.blt
 exact Calls.Name_function_global I.ok.kind hg (Calls.loadGlobal_builtin (by rw[I.ok.glob];exact I.mod.glob.keeps I.bk) hm (by rw[I.ok.blt];exact h1.keeps I.bk) ((h2 x hn).trans hv) h) hd
theorem TV{x:Str}{v:V}{u:Value}{pos:Pos}(hg:Gl X x)(hm:X.mg x=some u)(r:RelV v u)(hd:(x==("__debug__" : Str))=false:=by decide):PE X (.Name x pos) (tC v):=
 fun _ _ _ H _ I h=>Vk I hg hm ⟨v,H,I,r,h⟩ hd
variable{a b:Expr}{ta tb:TE}{pos:Pos}
noncomputable def tB(t:TE):TT:=fun σ H Q=>t σ H fun x H1=>∃c,x=.bl c∧Q c H1
theorem zb4{e:Expr}{t:TE}(h:PE X e t)(he:∀whole,isTrue e X.env whole=(do let v ← whole;standAt e.pos;holding [v] (truthy v)):=by intro _;rfl):PT X e (tB t):=by
 intro pins s σ H Q I hw
 refine isTrue_plain (thn (h pins s σ H _ I hw) fun v s1 z_=>?_) (he _)
 refine byc fun zG=>?_
 obtain⟨x,H1,I1,r1,q1⟩:=z_
 obtain⟨d,rfl,q⟩:=q1
 refine zG ?_
 cases r1
 exact wpAny_truthy_bool ⟨H1,I1,q⟩
variable{tA tB':TT}{rest:List Expr}
noncomputable def tAnd(t u:TT):TT:=fun σ H Q=>t σ H fun c H1=>if c=true then u σ H1 Q else Q false H1
noncomputable def tOr(t u:TT):TT:=fun σ H Q=>t σ H fun c H1=>if c=true then Q true H1 else u σ H1 Q
noncomputable def tNot(t:TT):TT:=fun σ H Q=>t σ H fun c H1=>Q (!c) H1
theorem TC(ha:PT X a tA):PW X (.BoolOp .And [a] pos) tA:=by
 intro wh pins s σ H Q I h
 refine isTrue_and (thn (ha pins s σ H Q I h) fun c s1 e=>?_)
 cases c with
 |true=>exact isTrue_and_nil e
 |false=>exact e
theorem Go(ha:PT X a tA):PW X (.BoolOp .Or [a] pos) tA:=by
 intro wh pins s σ H Q I h
 refine isTrue_or (thn (ha pins s σ H Q I h) fun c s1 e=>?_)
 cases c with
 |false=>exact isTrue_or_nil e
 |true=>exact e
theorem zb3(ha:PT X a tA)(hb:PW X (.BoolOp .And (b::rest) pos) tB'):PW X (.BoolOp .And (a::b::rest) pos) (tAnd tA tB'):=by
 intro wh pins s σ H Q I h
 refine isTrue_and (thn (ha pins s σ H _ I h) fun c s1 z_=>?_)
 obtain⟨H1,I1,q1⟩:=z_
 cases c with
 |true=>exact hb wh pins s1 σ H1 Q I1 q1
 |false=>exact⟨H1,I1,q1⟩
theorem LV(ha:PT X a tA)(hb:PW X (.BoolOp .Or (b::rest) pos) tB'):PW X (.BoolOp .Or (a::b::rest) pos) (tOr tA tB'):=by
 intro wh pins s σ H Q I h
 refine isTrue_or (thn (ha pins s σ H _ I h) fun c s1 z_=>?_)
 obtain⟨H1,I1,q1⟩:=z_
 cases c with
 |true=>exact⟨H1,I1,q1⟩
 |false=>exact hb wh pins s1 σ H1 Q I1 q1
theorem Gr(ha:PT X a tA):PT X (.UnaryOp .Not a pos) (tNot tA):=by
 intro pins s σ H Q I h
 exact isTrue_not (ha pins s σ H (fun c H1=>Q (!c) H1) I h)
theorem zc4{op}{t:TE}(h:PE X a t):PE X (.BoolOp op [a] pos) t:=fun pins s σ H Q I hw=>BoolOp_one (h pins s σ H Q I hw)
noncomputable def tIf(t:TT)(ta tb:TE):TE:=fun σ H Q=>t σ H fun c H1=>if c=true then ta σ H1 Q else tb σ H1 Q
theorem GB{c:Expr}(hc:PT X c tA)(ha:PE X a ta)(hb:PE X b tb):PE X (.IfExp c a b pos) (tIf tA ta tb):=by
 intro pins s σ H Q I h
 refine wpAny_IfExp (thn (hc pins s σ H _ I h) fun d s1 z_=>?_)
 obtain⟨H1,I1,q1⟩:=z_
 cases d with
 |true=>exact ha pins s1 σ H1 Q I1 q1
 |false=>exact hb pins s1 σ H1 Q I1 q1
end
noncomputable def SqL(K:Frag)(H:Hp)(a:Addr)(xs:List V):Prop:=
 Rd H a (.lst xs) ∨
  ∃(o:Obj) (its:Array Value) (n:Nat),K.lookup a=some o∧o.cls=.type "list" ∧ o.dict=none∧o.data=.seq its n∧its.size≤sizeLine∧Vals xs its.toList
noncomputable def SqT(K:Frag)(H:Hp)(a:Addr)(xs:List V):Prop:=
 Rd H a (.tup xs) ∨
  ∃(o:Obj) (its:Array Value) (n:Nat),K.lookup a=some o∧o.cls=.type "tuple" ∧ o.data=.seq its n∧its.size≤sizeLine∧Vals xs its.toList
noncomputable def absV:Value→Option V
 |.none=>some .non
 |.bool b=>some (.bl b)
 |.int i _=>some (.int i)
 |.str x _=>some (.str x)
 |.bytes b _=>some (.byt b)
 |.float b _=>some (.flt b)
 |.ref a=>some (.ref a)
 |.type n=>some (.ty n)
 |_=>none
theorem RelV.abs{x:V}{u:Value}(r:RelV x u):absV u=some x:=by
 cases x with
 |non=>cases r;rfl
 |bl _=>cases r;rfl
 |int _=>obtain⟨t,rfl⟩:=r;rfl
 |str _=>obtain⟨t,rfl⟩:=r;rfl
 |byt _=>obtain⟨t,rfl⟩:=r;rfl
 |flt _=>obtain⟨t,rfl⟩:=r;rfl
 |ref _=>cases r;rfl
 |ty _=>cases r;rfl
theorem RelV.inj{x y:V}{u:Value}(r:RelV x u)(q:RelV y u):x=y:=Option.some.inj (r.abs.symm.trans q.abs)
theorem Vals.inj:∀{xs ys:List V} {us:List Value},Vals xs us→Vals ys us→xs=ys
 |_,_,_,.nil,.nil=>rfl
 |_,_,_,.cons r t,.cons r' t'=>by rw[r.inj r',Vals.inj t t']
section
variable{X:Cx}{pins:List (Addr×Obj)}{σ:St}{H:Hp}{s:Shared}{a:Addr}{xs ys:List V}
theorem SqL.of{K:Frag}(h:H a=some (.lst xs)):SqL K H a xs:=.inl (.inl h)
theorem SqT.of{K:Frag}(h:H a=some (.tup xs)):SqT K H a xs:=.inl (.inl h)
theorem Inv.list(I:Inv X pins σ H s)(h:SqL X.K H a xs):∃its:List Value,Vals xs its∧PlainL s.heap a its.toArray∧xs.length≤sizeLine:=by
 rcases h with h|⟨o,its,n,hk,hc,hd,hs,hz,r⟩
 ·refine byc fun zG=>?_
  obtain⟨z,its,n,r,e⟩:=h.ok I.hok
  refine zG ?_
  exact⟨its,r,⟨_,n,e,rfl,rfl,rfl⟩,z⟩
 ·refine⟨its.toList,r,⟨o,n,I.kIn a o hk,hc,hd,by simpa using hs⟩,?_⟩
  have e:=r.length
  simp only[length_toList] at e
  lia
theorem Inv.tuple(I:Inv X pins σ H s)(h:SqT X.K H a xs):∃its:List Value,Vals xs its∧IsTup s.heap a its.toArray∧xs.length≤sizeLine:=by
 rcases h with h|⟨o,its,n,hk,hc,hs,hz,r⟩
 ·refine byc fun zG=>?_
  obtain⟨z,its,r,p⟩:=h.ok I.hok
  refine zG ?_
  exact⟨its,r,p,z⟩
 ·refine⟨its.toList,r,⟨o,I.kIn a o hk,hc,n,by simpa using hs⟩,?_⟩
  have e:=r.length
  simp only[length_toList] at e
  lia
theorem Inv.list_inj(I:Inv X pins σ H s)(h:SqL X.K H a xs)(h':SqL X.K H a ys):xs=ys:=by
 refine byc fun zG=>?_
 obtain⟨its,r,⟨o,n,e,_,_,d⟩,_⟩:=I.list h
 obtain⟨its',r',⟨o',n',e',_,_,d'⟩,_⟩:=I.list h'
 refine zG ?_
 rw[e] at e';cases e'
 rw[d] at d'
 injection d' with d1 _
 have:its=its':=by simpa using congrArg Array.toList d1
 subst this
 exact r.inj r'
theorem Inv.tuple_inj(I:Inv X pins σ H s)(h:SqT X.K H a xs)(h':SqT X.K H a ys):xs=ys:=by
 refine byc fun zG=>?_
 obtain⟨its,r,⟨o,e,_,n,d⟩,_⟩:=I.tuple h
 obtain⟨its',r',⟨o',e',_,n',d'⟩,_⟩:=I.tuple h'
 refine zG ?_
 rw[e] at e';cases e'
 rw[d] at d'
 injection d' with d1 _
 have:its=its':=by simpa using congrArg Array.toList d1
 subst this
 exact r.inj r'
end
noncomputable abbrev Cx.wish(X:Cx)(E:Value→Shared→Prop):Cx:={ X with xe:=E }
noncomputable abbrev Cx.nox(X:Cx):Cx:=X.wish fun _ _=>False
theorem Cx.Ok.wish{X:Cx}(ok:X.Ok)(E:Value→Shared→Prop):(X.wish E).Ok:=
 ⟨ok.mod,ok.kind,ok.glob,ok.blt,ok.above,ok.inj,ok.has,ok.cab,ok.hd,ok.frames,ok.stk,ok.exf,ok.bs,ok.bsz,ok.noex,ok.exfs,ok.funs,ok.frf⟩
theorem Cx.Ok.unwish{X:Cx}{E:Value→Shared→Prop}(ok:(X.wish E).Ok):X.Ok:=
 ⟨ok.mod,ok.kind,ok.glob,ok.blt,ok.above,ok.inj,ok.has,ok.cab,ok.hd,ok.frames,ok.stk,ok.exf,ok.bs,ok.bsz,ok.noex,ok.exfs,ok.funs,ok.frf⟩
section
variable{X:Cx}{pins:List (Addr×Obj)}{σ:St}{H:Hp}{s:Shared}{E:Value→Shared→Prop}
theorem Inv.wish(I:Inv X pins σ H s)(E:Value→Shared→Prop):Inv (X.wish E) pins σ H s:=⟨I.ok.wish E,I.os,I.bare,I.base,I.loc,I.cell,I.free,I.freeC,I.pin,I.hok,I.len⟩
theorem Inv.unwish(I:Inv (X.wish E) pins σ H s):Inv X pins σ H s:=⟨I.ok.unwish,I.os,I.bare,I.base,I.loc,I.cell,I.free,I.freeC,I.pin,I.hok,I.len⟩
theorem SP.unwish{D:VE}{f:Flow}{s':Shared}(h:SP (X.wish E) pins D f s'):SP X pins D f s':=by
 cases f with
 |next=>obtain⟨σ',H',I,q⟩:=h;exact⟨σ',H',I.unwish,q⟩
 |brk=>obtain⟨σ',H',I,q⟩:=h;exact⟨σ',H',I.unwish,q⟩
 |cont=>obtain⟨σ',H',I,q⟩:=h;exact⟨σ',H',I.unwish,q⟩
 |ret u=>obtain⟨v,σ',H',I,r,q⟩:=h;exact⟨v,σ',H',I.unwish,r,q⟩
theorem PSs.nox{st:List Stmt}{t:TS}(h:PSs X.nox st t):PSs X st t:=fun pins s σ H D I hw=>
 wpAny_mono (h pins s σ H D (I.wish _) hw) (fun _ _ q=>q.unwish) fun _ _ z=>False.elim z
end
section
variable{X:Cx}{st:Stmt}{rest:List Stmt}{t u:TS}{e:Expr}{te:TE}{pos:Pos}
noncomputable def tNext:TS:=fun D σ H=>D.nx σ H
noncomputable def tSeq(t u:TS):TS:=fun D σ H=>t { D with nx:=u D } σ H
theorem TJ:PSs X [] tNext:=fun _ _ σ H _ I h=>wpAny_execs_nil ⟨σ,H,I,h⟩
theorem Gs(h1:PS X st t)(h2:PSs X rest u):PSs X (st::rest) (tSeq t u):=by
 intro pins s σ H D I h
 refine wpAny_execs_cons (thn (h1 pins s σ H { D with nx:=u D } I h) fun f s1 q=>?_)
 cases f with
 |next=>
  refine byc fun zG=>?_
  obtain⟨σ',H',I',q⟩:=q
  refine zG ?_
  exact h2 pins s1 σ' H' D I' q
 |ret v=>exact q
 |brk=>exact q
 |cont=>exact q
theorem TH(h1:PS X st t):PSs X [st] t:=by
 intro pins s σ H D I h
 refine wpAny_execs_cons (thn (h1 pins s σ H D I h) fun f s1 q=>?_)
 cases f with
 |next=>exact wpAny_execs_nil q
 |ret v=>exact q
 |brk=>exact q
 |cont=>exact q
theorem Inv.quiet{pins:List (Addr×Obj)}{σ:St}{H:Hp}{s:Shared}(I:Inv X pins σ H s):interactive X.env=false:=by simp[interactive,I.ok.kind]
noncomputable def tDrop(te:TE):TS:=fun D σ H=>te σ H fun _ H1=>D.nx σ H1
theorem Yu(he:PE X e te)(hs:swapsWith e none pos.line X.env=pure false:=by rfl):PS X (.Expr e pos) (tDrop te):=by
 intro pins s σ H D I h
 exact wpAny_Expr_any (thn (he pins s σ H _ I h) fun v s1 ⟨x,H1,I1,r1,q1⟩=>⟨σ,H1,I1,q1⟩) I.quiet hs
noncomputable def tRet(te:TE):TS:=fun D σ H=>te σ H D.rt
theorem WY(he:PE X e te):PS X (.Return (some e) pos) (tRet te):=by
 intro pins s σ H D I h
 exact wpAny_Return_some (thn (he pins s σ H _ I h) fun v s1 ⟨x,H1,I1,r1,q1⟩=>⟨x,σ,H1,I1,r1,q1⟩)
noncomputable def tIfS(c:TT)(t u:TS):TS:=fun D σ H=>c σ H fun b H1=>if b=true then t D σ H1 else u D σ H1
theorem LW{c:Expr}{a b:List Stmt}{tc:TT}(hc:PT X c tc)(ha:PSs X a t)(hb:PSs X b u):PS X (.If c a b pos) (tIfS tc t u):=by
 intro pins s σ H D I h
 refine wpAny_If (thn (hc pins s σ H _ I h) fun d s1 z_=>?_)
 obtain⟨H1,I1,q1⟩:=z_
 cases d with
 |true=>exact ha pins s1 σ H1 D I1 q1
 |false=>exact hb pins s1 σ H1 D I1 q1
noncomputable def za6:TS:=fun _ _ _=>False
theorem Gu:PS X st za6:=fun _ _ _ _ _ _ h=>h.elim
end
noncomputable abbrev TG:=V→St→Hp→(St→Hp→Prop)→Prop
noncomputable abbrev TGs:=List V→St→Hp→(St→Hp→Prop)→Prop
noncomputable def PG(X:Cx)(target:Expr)(t:TG):Prop:=
 ∀(pins:List (Addr×Obj)) (s:Shared) (σ:St) (H:Hp) (v:V) (u:Value) (Q:St→Hp→Prop),Inv X pins σ H s→RelV v u→t v σ H Q →
  wpAny (model X.prog X.w) X.A (assign target X.env u) (fun _ s'=>∃σ' H',Inv X pins σ' H' s'∧Q σ' H') X.xe s
noncomputable def PGs(X:Cx)(ts:List Expr)(t:TGs):Prop:=
 ∀(pins:List (Addr×Obj)) (s:Shared) (σ:St) (H:Hp) (vs:List V) (us:List Value) (Q:St→Hp→Prop),Inv X pins σ H s→Vals vs us→t vs σ H Q →
  wpAny (model X.prog X.w) X.A (assignInOrder ((assignEach ts X.env).map (·.2)) us) (fun _ s'=>∃σ' H',Inv X pins σ' H' s'∧Q σ' H') X.xe s
noncomputable abbrev zi1:=V→V→V→Hp→(Hp→Prop)→Prop
noncomputable def PSet(X:Cx)(t:zi1):Prop:=
 ∀(pins:List (Addr×Obj)) (s:Shared) (σ:St) (H:Hp) (o i v:V) (ov iv u:Value) (Q:Hp→Prop),Inv X pins σ H s→RelV o ov→RelV i iv→RelV v u→t o i v H Q →
  wpAny (model X.prog X.w) X.A (setItem ov iv u) (fun _ s'=>∃H',Inv X pins σ H' s'∧Q H') X.xe s
section
variable{X:Cx}{pos:Pos}
noncomputable def WC(i:Nat):TG:=fun v σ H Q=>Q (σ.set i (some v)) H
theorem WZ{i:Nat}{x:Str}(hN:X.N.Nodup)(hi:X.N[i]?=some x)(hx:Loc X.env.scope x)(hf:X.fn x=true∨X.env.scope.names.lookup x=some .local:=by first|exact .inl rfl|exact .inr rfl|assumption):PG X (.Name x pos) (WC i):=by
 intro pins s σ H v u Q I r h
 exact wpAny_assign_Name (VM I hN hi hx r (fun s' I'=>⟨_,H,I',h⟩) hf)
noncomputable def gNil:TGs:=fun vs σ H Q=>vs=[]∧Q σ H
noncomputable def gCons(t:TG)(u:TGs):TGs:=fun vs σ H Q=>∃v r,vs=v::r∧t v σ H fun σ' H'=>u r σ' H' Q
theorem TQ:PGs X [] gNil:=by
 intro pins s σ H vs us Q I r h
 obtain⟨e,h⟩:=h
 subst e
 cases r
 exact assignInOrder_nil ⟨σ,H,I,h⟩
theorem VW{e:Expr}{es:List Expr}{t:TG}{u:TGs}(h1:PG X e t)(h2:PGs X es u)
  (hs:(assignEach (e::es) X.env).map (·.2)=assign e X.env::(assignEach es X.env).map (·.2):=by rfl):PGs X (e::es) (gCons t u):=by
 intro pins s σ H vs us Q I r h
 refine byc fun zG=>?_
 obtain⟨v,vr,e1,h⟩:=h
 refine zG ?_
 subst e1
 cases r with
 |cons r rr=>
  rw[hs]
  refine assignInOrder_cons (thn (h1 pins s σ H _ _ _ I r h) fun _ s1 z_=>?_)
  refine byc fun zG=>?_
  obtain⟨σ1,H1,I1,q1⟩:=z_
  refine zG ?_
  exact h2 pins s1 σ1 H1 _ _ Q I1 rr q1
noncomputable def gTup(K:Frag)(n:Nat)(t:TGs):TG:=fun v σ H Q=>∃a xs,v=.ref a∧SqT K H a xs∧xs.length=n∧t xs σ H Q
theorem zb9{es:List Expr}{k:Nat}{t:TGs}{n:Nat}(hc:X.calm=true)(h:PGs X es t)
  (hn:(assignEach es X.env).length=n:=by rfl) (hst:(assignEach es X.env).findIdx? (·.1)=none:=by rfl):PG X (.Tuple es k pos) (gTup X.K n t):=by
 intro pins s σ H v u Q I r hw
 refine byc fun zG=>?_
 obtain⟨a,xs,e1,hq,hl,hw⟩:=hw
 refine zG ?_
 subst e1
 cases r
 refine byc fun zG=>?_
 obtain⟨its,rv,ht,hz⟩:=I.tuple hq
 refine zG ?_
 refine assign_Tuple_tuple (I.ok.hd hc) ht (by simp[hn,← hl,rv.length]) hst fun h' hx=>?_
 have I1:Inv X pins σ H { s with heap:=h' }:=I.kept (t':=s.toks) fun b o e=>hx b o (ne_of_lt (Heap.lt_size e)) e
 exact h pins _ σ H xs _ Q I1 (by simpa using rv) hw
noncomputable def gSub(to ti:TE)(t:zi1):TG:=fun v σ H Q=>to σ H fun o H1=>ti σ H1 fun i H2=>t o i v H2 fun H3=>Q σ H3
theorem zc0{o i:Expr}{to ti:TE}{t:zi1}(ho:PE X o to)(hi:PE X i ti)(hs:PSet X t)
  (ha:∀v,assign (.Subscript o i pos) X.env v=(do
   let ov ← holding [v] (eval o X.env)
   let iv ← holding [v,ov] (eval i X.env)
   standAt pos
   holding [v,ov,iv] (setItem ov iv v)
   release [v,ov,iv] []):=by intro _;rfl):PG X (.Subscript o i pos) (gSub to ti t):=by
 intro pins s σ H v u Q I r h
 rw[ha]
 refine wpAny_bind (wpAny_holding (thn (ho pins s σ H _ I h) fun ov s1 z_=>?_))
 refine byc fun zG=>?_
 obtain⟨x,H1,I1,r1,q1⟩:=z_
 refine zG ?_
 refine wpAny_bind (wpAny_holding (thn (hi pins s1 σ H1 _ I1 q1) fun iv s2 z_=>?_))
 refine byc fun zG=>?_
 obtain⟨y,H2,I2,r2,q2⟩:=z_
 refine zG ?_
 refine wpAny_bind (wpAny_standAt (wpAny_bind (wpAny_holding (thn (hs pins s2 σ H2 x y v ov iv u _ I2 r1 r2 r q2) fun _ s3 z_=>?_))))
 obtain⟨H3,I3,q3⟩:=z_
 exact wpAny_release ⟨σ,H3,I3,q3⟩
noncomputable def za7(te:TE)(g:TG):TS:=fun D σ H=>te σ H fun x H1=>g x σ H1 D.nx
theorem zb5{tg e:Expr}{te:TE}{g:TG}(he:PE X e te)(hg:PG X tg g)(hs:swapsWithSole [tg] e pos.line X.env=pure false:=by rfl)(hw:swappedStores [tg] e X.env=pure none:=by rfl)
  (h1:(assignEach [tg] X.env).map (·.2)=[assign tg X.env]:=by rfl):PS X (.Assign [tg] e pos) (za7 te g):=by
 intro pins s σ H D I h
 refine wpAny_Assign_stores (thn (he pins s σ H _ I h) fun v s1 z_=>?_) hs hw
 refine byc fun zG=>?_
 obtain⟨x,H1,I1,r1,q1⟩:=z_
 refine zG ?_
 rw[h1]
 exact thn (hg pins s1 σ H1 x v _ I1 r1 q1) fun _ s2 q=>q
theorem YY{i:Nat}{x:Str}{e:Expr}{te:TE}{pos':Pos}(hN:X.N.Nodup)(hi:X.N[i]?=some x)(hx:Loc X.env.scope x)(he:PE X e te)(hs:swapsWith e (some (.Name x pos')) pos.line X.env=pure false:=by rfl)(hf:X.fn x=true∨X.env.scope.names.lookup x=some .local:=by first|exact .inl rfl|exact .inr rfl|assumption) :
  PS X (.Assign [.Name x pos'] e pos) (za7 te (WC i)):=by
 intro pins s σ H D I h
 refine wpAny_Assign_Name (thn (he pins s σ H _ I h) fun v s1 z_=>?_) hs
 refine byc fun zG=>?_
 obtain⟨y,H1,I1,r1,q1⟩:=z_
 refine zG ?_
 exact VM I1 hN hi hx r1 (fun s2 I2=>⟨_,H1,I2,q1⟩) hf
end
section
variable{X:Cx}{pos:Pos}
end
structure It where
 go:Nat→Hp→Prop
 yld:Nat→Hp→V→Hp→Prop
 stop:Nat→Hp→Prop
noncomputable def VD(X:Cx)(pins:List (Addr×Obj))(H:Hp)(b:Addr):Prop:=
 H b=none∧b≠X.env.locals∧b∉X.fs∧(b∈X.ex∨X.s₀.heap.objs.size≤b)∧(∀x c,X.env.cells.lookup x=some c→c≠b)∧∀p∈X.pn++pins,p.1≠b
theorem Inv.fpOk{X:Cx}{pins:List (Addr×Obj)}{σ:St}{H H':Hp}{s:Shared}{b:Addr}(I:Inv X pins σ H s)(hb:s.heap.objs.size≤b)(hn:H' b=none):VD X pins H' b:=by
 refine⟨hn,ne_of_gt (lt_of_lt_of_le I.lt hb),I.nofs hb,.inr (le_trans I.sz hb),fun x c e z=>?_,fun p hp z=>?_⟩
 ·obtain⟨v,q⟩:=I.cell x c e
  exact absurd (lt_of_lt_of_le q.lt (by rw[z];exact hb)) (lt_irrefl _)
 ·exact absurd (lt_of_lt_of_le (Heap.lt_size (I.pin p hp).1) (by rw[z];exact hb)) (lt_irrefl _)
structure Uv(P:Program)(w:World)(K:Frag)(tg:Expr)(J:It)(fp:List Addr)(it:Addr)(tn:Nat→Heap→Prop):Prop where
 mem:it∈fp
 obj:∀i h,tn i h→∀b∈fp,∃o,h.get? b=some o∧∀v,o.data≠.cell v
 keep:∀i h h',tn i h→(∀b∈fp,∀o,h.get? b=some o→h'.get? b=some o)→tn i h'
 item:∀(X:Cx),X.prog=P→X.w=w→X.K=K→X.calm=true→∀(i:Nat) (pins:List (Addr×Obj)) (s:Shared) (σ:St) (H:Hp) (E:Value→Shared→Prop),Inv X pins σ H s→(∀b∈fp,VD X pins H b)→tn i s.heap→J.go i H →
  wpAny (model P w) X.A (pyNext (.ref it)) (fun r s1=>∃u,r=some u ∧
   wpAny (model P w) X.A (letOwnedTupleGo tg (.ref it) u) (fun _ s2=>∃x H',Inv X pins σ H' s2∧RelV x u∧J.yld i H x H'∧tn (i+1) s2.heap∧∀b∈fp,H' b=none) E s1) E s
 done:∀(X:Cx),X.prog=P→X.w=w→X.K=K→X.calm=true→∀(i:Nat) (pins:List (Addr×Obj)) (s:Shared) (σ:St) (H:Hp) (E:Value→Shared→Prop),Inv X pins σ H s→(∀b∈fp,VD X pins H b)→tn i s.heap→J.stop i H →
  wpAny (model P w) X.A (pyNext (.ref it)) (fun r s1=>r=none∧Inv X pins σ H s1) E s
 self:∀(A:Around) (i:Nat) (s:Shared) (Q:Value→Shared→Prop) (E:Value→Shared→Prop),tn i s.heap→Q (.ref it) s→wpAny (model P w) A (pyIter (.ref it)) Q E s
noncomputable abbrev TI:=St→Hp→(It→Hp→Prop)→Prop
noncomputable def PIE(X:Cx)(pins:List (Addr×Obj))(σ:St)(tg:Expr)(R:It→Hp→Prop)(itv:Value)(s2:Shared):Prop:=
 ∃(it:Addr) (fp:List Addr) (tn:Nat→Heap→Prop) (J:It) (H':Hp),itv=.ref it∧Inv X pins σ H' s2∧Uv X.prog X.w X.K tg J fp it tn∧tn 0 s2.heap∧(∀b∈fp,VD X pins H' b)∧R J H'
noncomputable def PI(X:Cx)(tg iter:Expr)(wi:TI):Prop:=
 ∀(pins:List (Addr×Obj)) (s:Shared) (σ:St) (H:Hp) (R:It→Hp→Prop),Inv X pins σ H s→wi σ H R →
  wpAny (model X.prog X.w) X.A (eval iter X.env) (fun v s1=>wpAny (model X.prog X.w) X.A (pyIter v) (PIE X pins σ tg R) X.xe s1) X.xe s
theorem Uo{M:Model}{A:Around}{E:Value→Shared→Prop}{s:Shared}{tg:Expr}{it:Addr}{u:Value}{o:Obj}{n:String}{vs:Array Value}{Q:Unit→Shared→Prop}(ho:s.heap.get? it=some o)(hc:o.cls=.type n)(hd:o.data=.fields vs)
  (hn:["enumerate", "zip", "dict_itemiterator", "dict_reverseitemiterator", "odict_iterator", "itertools.zip_longest", "itertools.pairwise"].contains n=false) (hQ:Q () s):wpAny M A (letOwnedTupleGo tg (.ref it) u) Q E s:=by
 unfold letOwnedTupleGo
 cases tg <;> first
  | exact wpAny_pure hQ
  | (cases u <;> first
    | exact wpAny_pure hQ
    | (refine wpAny_bind (wpAny_load ho ?_)
       rw[hc,hd]
       show wpAny M A (if (["enumerate", "zip", "dict_itemiterator", "dict_reverseitemiterator", "odict_iterator", "itertools.zip_longest", "itertools.pairwise"].contains n&&vs[0]?==some (rawInt _))=true then _ else _) Q E s
       rw[if_neg (by intro h;rw[hn,Bool.false_and] at h;cases h)]
       exact wpAny_pure hQ))
noncomputable def Itl(K:Frag)(a:Addr):It:=
 ⟨fun i H=>∃xs x,SqL K H a xs∧xs[i]?=some x,fun i H x H'=>H'=H∧∀xs,SqL K H a xs→xs[i]?=some x,fun i H=>∃xs,SqL K H a xs∧xs.length≤i⟩
noncomputable def Itt(K:Frag)(a:Addr):It:=
 ⟨fun i H=>∃xs x,SqT K H a xs∧xs[i]?=some x,fun i H x H'=>H'=H∧∀xs,SqT K H a xs→xs[i]?=some x,fun i H=>∃xs,SqT K H a xs∧xs.length≤i⟩
noncomputable def Itr(lo:Int)(n:Nat):It:=⟨fun i _=>i<n,fun i H x H'=>H'=H∧x=.int (lo+i),fun i _=>n≤i⟩
theorem Wh{P:Program}{w:World}{K:Frag}{tg:Expr}(a it:Addr):Uv P w K tg (Itl K a) [it] it (fun i h=>h.IsListIter it a i) where
 mem:=by simp
 obj:=fun i h st b hb=>by
  have e:b=it:=by simpa using hb
  subst e
  refine byc fun zG=>?_
  obtain⟨o,e,c,d⟩:=st
  refine zG ?_
  exact⟨o,e,fun v z=>by rw[d] at z;cases z⟩
 keep:=fun i h h' st k=>st.at fun o e=>k it (by simp) o e
 item:=by
  intro X hP hw hK hc i pins s σ H E I hf st hg
  subst hP hw hK
  refine byc fun zG=>?_
  obtain⟨xs,x,hq,hx⟩:=hg
  obtain⟨its,rv,p,hz⟩:=I.list hq
  obtain⟨u,hu,ru⟩:=rv.get hx
  obtain⟨f0,f1,f2,f3,f4,f5⟩:=hf it (by simp)
  refine zG ?_
  refine wpAny_pyNext_list_item st p.isList (x:=u) (by simpa using hu) fun h' st' sb=>?_
  have I1:Inv X pins σ H { s with heap:=h' }:=I.turned (t':=s.toks) (fun b o hb e=>(sb.2 b hb).trans e) f0 f1 f3 f4 f5
  refine byc fun zG=>?_
  obtain⟨o,e,c,d⟩:=id st'
  refine zG ?_
  exact⟨u,rfl,Uo (s:={ s with heap:=h' }) e c d (by decide) ⟨x,H,I1,ru,⟨rfl,fun ys hy=>by rw[I.list_inj hy hq];exact hx⟩,st',fun b hb=>(hf b hb).1⟩⟩
 done:=by
  intro X hP hw hK hc i pins s σ H E I hf st hg
  subst hP hw hK
  refine byc fun zG=>?_
  obtain⟨xs,hq,hx⟩:=hg
  obtain⟨its,rv,p,hz⟩:=I.list hq
  obtain⟨f0,f1,f2,f3,f4,f5⟩:=hf it (by simp)
  refine zG ?_
  have hl:=rv.length
  exact wpAny_pyNext_list_end (I.ok.hd hc) st p.isList (by simp;lia) fun h' eb=>⟨rfl,I.turned (t':=s.toks) (fun b o hb e=>eb b o hb e) f0 f1 f3 f4 f5⟩
 self:=fun _ _ _ _ _ st h=>wpAny_pyIter_listiter st h
theorem Uw{P:Program}{w:World}{K:Frag}{tg:Expr}(a it:Addr):Uv P w K tg (Itt K a) [it] it (fun i h=>h.IsTupleIter it a i) where
 mem:=by simp
 obj:=fun i h st b hb=>by
  have e:b=it:=by simpa using hb
  subst e
  refine byc fun zG=>?_
  obtain⟨o,e,c,d⟩:=st
  refine zG ?_
  exact⟨o,e,fun v z=>by rw[d] at z;cases z⟩
 keep:=fun i h h' st k=>st.at fun o e=>k it (by simp) o e
 item:=by
  intro X hP hw hK hc i pins s σ H E I hf st hg
  subst hP hw hK
  refine byc fun zG=>?_
  obtain⟨xs,x,hq,hx⟩:=hg
  obtain⟨its,rv,p,hz⟩:=I.tuple hq
  obtain⟨u,hu,ru⟩:=rv.get hx
  obtain⟨f0,f1,f2,f3,f4,f5⟩:=hf it (by simp)
  refine zG ?_
  refine wpAny_pyNext_tuple_item st (show s.heap.IsTuple a its.toArray from p) (x:=u) (by simpa using hu) fun h' st' sb=>?_
  have I1:Inv X pins σ H { s with heap:=h' }:=I.turned (t':=s.toks) (fun b o hb e=>(sb.2 b hb).trans e) f0 f1 f3 f4 f5
  refine byc fun zG=>?_
  obtain⟨o,e,c,d⟩:=id st'
  refine zG ?_
  exact⟨u,rfl,Uo (s:={ s with heap:=h' }) e c d (by decide) ⟨x,H,I1,ru,⟨rfl,fun ys hy=>by rw[I.tuple_inj hy hq];exact hx⟩,st',fun b hb=>(hf b hb).1⟩⟩
 done:=by
  intro X hP hw hK hc i pins s σ H E I hf st hg
  subst hP hw hK
  refine byc fun zG=>?_
  obtain⟨xs,hq,hx⟩:=hg
  obtain⟨its,rv,p,hz⟩:=I.tuple hq
  obtain⟨f0,f1,f2,f3,f4,f5⟩:=hf it (by simp)
  refine zG ?_
  have hl:=rv.length
  exact wpAny_pyNext_tuple_end (I.ok.hd hc) st (show s.heap.IsTuple a its.toArray from p) (by simp;lia) fun h' eb=>⟨rfl,I.turned (t':=s.toks) (fun b o hb e=>eb b o hb e) f0 f1 f3 f4 f5⟩
 self:=fun _ _ _ _ _ st h=>wpAny_pyIter_tupleiter st h
theorem Ux{P:Program}{w:World}{K:Frag}{tg:Expr}(it:Addr)(lo:Int)(n:Nat):Uv P w K tg (Itr lo n) [it] it (fun i h=>IsRangeIter h it (lo+(i:Nat)*1) ((n:Int)-(i:Nat)) 1) where
 mem:=by simp
 obj:=fun i h st b hb=>by
  have e:b=it:=by simpa using hb
  subst e
  exact⟨_,st,fun v z=>by
   have z':Data.fields _=Data.cell v:=z
   cases z'⟩
 keep:=fun i h h' st k=>k it (by simp) _ st
 item:=by
  intro X hP hw hK hc i pins s σ H E I hf st hg
  subst hP hw hK
  refine byc fun zG=>?_
  obtain⟨f0,f1,f2,f3,f4,f5⟩:=hf it (by simp)
  refine zG ?_
  have W:=Walks.range (prog:=X.prog) (w:=X.w) (I.ok.hd hc) it lo 1 n
  refine W.item i s _ _ hg st fun v h' tk hv st' kk=>?_
  obtain⟨t,rfl⟩:=hv
  have I1:Inv X pins σ H { s with heap:=h',toks:=tk }:=I.turned (fun b o hb e=>kk b o (by simpa using hb) e) f0 f1 f3 f4 f5
  refine⟨_,rfl,Uo (s:={ s with heap:=h',toks:=tk }) (n := "range_iterator") st' rfl rfl (by decide) ⟨.int (lo+i),H,I1,⟨t,?_⟩,⟨rfl,rfl⟩,st',fun b hb=>(hf b hb).1⟩⟩
  rw[Int.mul_one]
 done:=by
  intro X hP hw hK hc i pins s σ H E I hf st hg
  subst hP hw hK
  refine byc fun zG=>?_
  obtain⟨f0,f1,f2,f3,f4,f5⟩:=hf it (by simp)
  refine zG ?_
  exact wpAny_pyNext_range_end (I.ok.hd hc) st (by have:n≤i:=hg;lia) fun h' eb=>⟨rfl,I.turned (t':=s.toks) (fun b o hb e=>eb b o hb e) f0 f1 f3 f4 f5⟩
 self:=fun _ _ _ _ _ st h=>wpAny_pyIter_rangeiter st h
section
variable{X:Cx}{tg:Expr}
noncomputable def iList(K:Frag)(tl:TE):TI:=fun σ H R=>tl σ H fun x H1=>∃a,x=.ref a∧(∃xs,SqL K H1 a xs)∧R (Itl K a) H1
theorem Jy{l:Expr}{tl:TE}(hl:PE X l tl):PI X tg l (iList X.K tl):=by
 intro pins s σ H R I h
 refine thn (hl pins s σ H _ I h) fun v s1 z_=>?_
 refine byc fun zG=>?_
 obtain⟨x,H1,I1,r1,q1⟩:=z_
 obtain⟨a,e,⟨xs,hq⟩,q⟩:=q1
 refine zG ?_
 subst e
 cases r1
 refine byc fun zG=>?_
 obtain⟨its,rv,p,hz⟩:=I1.list hq
 refine zG ?_
 refine wpAny_pyIter_list p.isList ?_
 refine⟨s1.heap.objs.size,[s1.heap.objs.size],_,_,H1,rfl,I1.kept (t':=s1.toks) fun b o e=>get?_push_of_some _ e,Wh a _,⟨_,Heap.get?_push_size _ rfl,rfl,rfl⟩,fun b hb=>?_,q⟩
 have e:b=s1.heap.objs.size:=by simpa using hb
 subst e
 exact I1.fpOk (le_refl _) (I1.hok.fresh (le_refl _))
theorem VU{pins:List (Addr×Obj)}{σ:St}{H:Hp}{s:Shared}{R:It→Hp→Prop}{E:Value→Shared→Prop}{lo hi:Int}{t u v:Tok}{tk:Nat}(I:Inv X pins σ H s)(h1 : -(2 ^ 62)≤lo)(h2:lo<2 ^ 62)(h3 : -(2 ^ 62)≤hi)(h4:hi<2 ^ 62)
  (q:R (Itr lo (hi-lo).toNat) H):wpAny (model X.prog X.w) X.A (pyIter (.ref s.heap.objs.size)) (PIE X pins σ tg R) E { s with heap:=s.heap.push { cls:=.type "range", data:=.fields #[.int lo t,.int hi u,.int 1 v] },toks:=tk }:=by
 refine wpAny_pyIter_range (IsRange.new ..) (small_one h1 h2 h3 h4) ?_
 have I1:Inv X pins σ H { s with heap:=s.heap.push { cls:=.type "range", data:=.fields #[.int lo t,.int hi u,.int 1 v] },toks:=tk }:=I.kept fun b o e=>get?_push_of_some _ e
 refine⟨(s.heap.push { cls:=.type "range", data:=.fields #[.int lo t,.int hi u,.int 1 v] }).objs.size,[(s.heap.push { cls:=.type "range", data:=.fields #[.int lo t,.int hi u,.int 1 v] }).objs.size],_,_,H,rfl,
  I1.kept (t':=tk) fun b o e=>get?_push_of_some _ e,Ux _ lo (hi-lo).toNat,?_,fun b hb=>?_,q⟩
 ·have e1:lo+((0:Nat):Int)*1=lo:=by simp
  have e2:(((hi-lo).toNat:Nat):Int)-((0:Nat):Int)=Builtin.Range.rangeSize lo hi 1:=by rw[rangeSize_one];split <;> lia
  show IsRangeIter _ _ (lo+((0:Nat):Int)*1) ((((hi-lo).toNat:Nat):Int)-((0:Nat):Int)) 1
  rw[e1,e2]
  exact Heap.get?_push_size _ rfl
 ·have e:b=(s.heap.push { cls:=.type "range", data:=.fields #[.int lo t,.int hi u,.int 1 v] }).objs.size:=by simpa using hb
  subst e
  exact I1.fpOk (le_refl _) (I1.hok.fresh (le_refl _))
noncomputable def iRng1(ta:TA):TI:=fun σ H R=>ta σ H fun vs H1=>∃j:Int,vs=[.int j]∧-(2 ^ 62)≤j∧j<2 ^ 62∧R (Itr 0 j.toNat) H1
noncomputable def iRng2(ta:TA):TI:=fun σ H R=>ta σ H fun vs H1=>∃i j:Int,vs=[.int i,.int j]∧(-(2 ^ 62)≤i∧i<2 ^ 62∧-(2 ^ 62)≤j∧j<2 ^ 62)∧R (Itr i (j-i).toNat) H1
theorem Qk{a:Expr}{ta:TA}{p pos:Pos}(hg:Gl X "range")(hm:X.mg "range" = none)(ha:PA X [a] ta)(hs:starEach [a] X.env=[(false,eval a X.env)]:=by rfl):PI X tg (.Call (.Name "range" p) [a] [] pos) (iRng1 ta):=by
 intro pins s σ H R I h
 refine Call_ (u9 I hg hm boot_range (PyProof.Rows.callWith_type1 (thn (ha pos pins s σ H _ I h) fun us s1 z_=>?_) hs rfl))
 refine byc fun zG=>?_
 obtain⟨vs,H1,I1,r1,q1⟩:=z_
 obtain⟨j,e,q1,q2,q⟩:=q1
 refine zG ?_
 subst e
 cases r1 with
 |cons r rr=>
  cases rr
  obtain⟨t,rfl⟩:=r
  exact call_range_1 (VU I1 (by lia) (by lia) q1 q2 (by simpa using q))
theorem Qj{a b:Expr}{ta:TA}{p pos:Pos}(hg:Gl X "range")(hm:X.mg "range" = none)(ha:PA X [a,b] ta)(hs:starEach [a,b] X.env=[(false,eval a X.env),(false,eval b X.env)]:=by rfl)(hs2:starEach [b] X.env=[(false,eval b X.env)]:=by rfl) :
  PI X tg (.Call (.Name "range" p) [a,b] [] pos) (iRng2 ta):=by
 intro pins s σ H R I h
 refine Call_ (u9 I hg hm boot_range (PyProof.Rows.callWith_type1 (thn (ha pos pins s σ H _ I h) fun us s1 z_=>?_) (by rw[hs,hs2]) (by rw[hs2];rfl)))
 refine byc fun zG=>?_
 obtain⟨vs,H1,I1,r1,q1⟩:=z_
 obtain⟨i,j,e,⟨q1,q2,q3,q4⟩,q⟩:=q1
 refine zG ?_
 subst e
 cases r1 with
 |cons r rr=>
  cases rr with
  |cons r' rr=>
   cases rr
   obtain⟨t,rfl⟩:=r
   obtain⟨t',rfl⟩:=r'
   exact call_range_2 (VU I1 q1 q2 q3 q4 q)
noncomputable def tFor(wi:TI)(g:TG)(tb:TS):TS:=fun D σ H=>wi σ H fun J H1=>∃W:Nat→Nat→St→Hp→Prop,(∃m,W 0 m σ H1)∧∀i m σ H,W i m σ H →
 (J.stop i H∧D.nx σ H)∨(J.go i H∧∃N:St→Hp→Prop,(∀σ' H',N σ' H'→∃m',m'<m∧W (i+1) m' σ' H')∧∀x H',J.yld i H x H'→g x σ H' fun σ2 H2=>tb { D with nx:=N,ct:=N,bk:=D.nx } σ2 H2)
noncomputable def Y1(fp:List Addr)(h:Heap):List (Addr×Obj):=fp.filterMap fun b=>(h.get? b).map fun o=>(b,o)
theorem uA{fp:List Addr}{h:Heap}{b:Addr}{o:Obj}(hb:b∈fp)(e:h.get? b=some o):(b,o)∈Y1 fp h:=List.mem_filterMap.mpr ⟨b,hb,by rw[e];rfl⟩
theorem Qu{fp:List Addr}{h:Heap}{p:Addr×Obj}(hp:p∈Y1 fp h):p.1∈fp∧h.get? p.1=some p.2:=by
 obtain⟨b,hb,e⟩:=List.mem_filterMap.mp hp
 cases q:h.get? b with
 |none=>rw[q] at e;cases e
 |some o=>
  rw[q] at e
  have e':(b,o)=p:=Option.some.inj e
  subst e'
  exact⟨hb,q⟩
theorem Inv.pinned{pins:List (Addr×Obj)}{σ:St}{H:Hp}{s:Shared}{fp:List Addr}(I:Inv X pins σ H s)(hf:∀b∈fp,VD X pins H b)(ho:∀b∈fp,∃o,s.heap.get? b=some o∧∀v,o.data≠.cell v):Inv X (pins++Y1 fp s.heap) σ H s:=
 I.pins_of fun p hp=>(mem_append.mp hp).elim (fun z=>I.pin p (mem_append_right _ z)) fun z=>by
  refine byc fun zG=>?_
  obtain⟨hb,e⟩:=Qu z
  obtain⟨f0,f1,f2,_⟩:=hf p.1 hb
  obtain⟨o,e',d⟩:=ho p.1 hb
  refine zG ?_
  rw[e] at e';cases e'
  exact⟨e,f0,f1,f2,d⟩
theorem Inv.unpinned{pins pl:List (Addr×Obj)}{σ:St}{H:Hp}{s:Shared}(I:Inv X (pins++pl) σ H s):Inv X pins σ H s:=I.pins_of fun p hp=>I.pin p (mem_append_right _ (mem_append_left _ hp))
theorem Gv{iter:Expr}{body:List Stmt}{wi:TI}{g:TG}{tb:TS}{pos:Pos}(hp:PassesOwn (model X.prog X.w) X.A X.env X.xe)(hc:X.calm=true)(hi:PI X tg iter wi)(hg:PG X tg g)(hb:PSs X body tb)
  (hs:∀x,foldedSetIterable iter X.env x=pure x:=by intro _;rfl):PS X (.For tg iter body [] pos) (tFor wi g tb):=by
 intro pins s σ H D I h
 refine wpAny_For (thn (hi pins s σ H _ I h) fun v s1 h1=>thn h1 fun itv s2 h2=>?_) hs
 refine byc fun zG=>?_
 obtain⟨it,fp,tn,J,H2,e,I2,T,st2,f2,W,⟨m0,w0⟩,turn⟩:=h2
 refine zG ?_
 subst e
 have stat:∀{H':Hp},(∀b∈fp,H' b=none)→∀b∈fp,VD X pins H' b:=fun hn b hb=>⟨hn b hb,(f2 b hb).2⟩
 refine codeAny_forLoop_any (fun n s'=>∃i σ' H',Inv X pins σ' H' s'∧tn i s'.heap∧(∀b∈fp,H' b=none)∧W i n σ' H') ?_ m0 ⟨0,σ,H2,I2,st2,fun b hb=>(f2 b hb).1,w0⟩
 rintro n s3 ⟨i,σ3,H3,I3,st3,fr3,w3⟩
 rcases turn i n σ3 H3 w3 with ⟨stop,qn⟩|⟨go,N,hN,step⟩
 ·refine wpAny_passesOwn hp (thn (T.done X rfl rfl rfl hc i pins s3 σ3 H3 X.xe I3 (stat fr3) st3 stop) fun r s4 z_=>?_)
  obtain⟨hr,I4⟩:=z_
  subst hr
  exact wpAny_execs_nil ⟨σ3,H3,I4,qn⟩
 ·refine wpAny_passesOwn hp (thn (T.item X rfl rfl rfl hc i pins s3 σ3 H3 X.xe I3 (stat fr3) st3 go) fun r s4 z_=>?_)
  obtain⟨u,hr,h4⟩:=z_
  subst hr
  refine wpAny_passesOwn hp (thn h4 fun _ s5 z_=>?_)
  refine byc fun zG=>?_
  obtain⟨x,H5,I5,r5,y5,st5,fr5⟩:=z_
  refine zG ?_
  have I5':=I5.pinned (stat fr5) (T.obj _ _ st5)
  refine wpAny_passesOwn hp (thn (hg _ s5 σ3 H5 x u _ I5' r5 (step x H5 y5)) fun _ s6 z_=>?_)
  refine byc fun zG=>?_
  obtain⟨σ6,H6,I6,q6⟩:=z_
  refine zG ?_
  refine wpAny_passesOwn hp (thn (hb _ s6 σ6 H6 _ I6 q6) fun f s7 q7=>?_)
  have again:∀{σ7:St} {H7:Hp},Inv X (pins++Y1 fp s5.heap) σ7 H7 s7→N σ7 H7→∃m,m<n∧∃i σ' H',Inv X pins σ' H' s7∧tn i s7.heap∧(∀b∈fp,H' b=none)∧W i m σ' H':=fun {σ7 H7} I7 n7=>by
   obtain⟨m',hm,w7⟩:=hN σ7 H7 n7
   refine⟨m',hm,i+1,σ7,H7,I7.unpinned,T.keep _ _ _ st5 fun b hb o e=>(I7.pin (b,o) (mem_append_right _ (mem_append_right _ (uA hb e)))).1,fun b hb=>?_,w7⟩
   obtain⟨o,e,d⟩:=T.obj _ _ st5 b hb
   exact(I7.pin (b,o) (mem_append_right _ (mem_append_right _ (uA hb e)))).2.1
  cases f with
  |next=>obtain⟨σ7,H7,I7,n7⟩:=q7;exact again I7 n7
  |cont=>obtain⟨σ7,H7,I7,n7⟩:=q7;exact again I7 n7
  |brk=>obtain⟨σ7,H7,I7,q7⟩:=q7;exact⟨σ7,H7,I7.unpinned,q7⟩
  |ret v=>obtain⟨x7,σ7,H7,I7,r7,q7⟩:=q7;exact⟨x7,σ7,H7,I7.unpinned,r7,q7⟩
end
noncomputable abbrev R2:=V→V→Hp→VK→Prop
noncomputable def OpR(X:Cx)(f:Value→Value→Sem Value)(r:R2):Prop:=
 ∀(pins:List (Addr×Obj)) (s:Shared) (σ:St) (H:Hp) (x y:V) (v u:Value) (Q:VK),Inv X pins σ H s→RelV x v→RelV y u→r x y H Q →
  wpAny (model X.prog X.w) X.A (f v u) (EP X pins σ Q) X.xe s
noncomputable def UnR(X:Cx)(f:Value→Sem Value)(r:V→Hp→VK→Prop):Prop:=
 ∀(pins:List (Addr×Obj)) (s:Shared) (σ:St) (H:Hp) (x:V) (v:Value) (Q:VK),Inv X pins σ H s→RelV x v→r x H Q →
  wpAny (model X.prog X.w) X.A (f v) (EP X pins σ Q) X.xe s
noncomputable def CallR(X:Cx)(f:Value)(r:List V→Hp→VK→Prop):Prop:=
 ∀(pins:List (Addr×Obj)) (s:Shared) (σ:St) (H:Hp) (xs:List V) (us:List Value) (Q:VK),Inv X pins σ H s→Vals xs us→r xs H Q →
  wpAny (model X.prog X.w) X.A (call f us) (EP X pins σ Q) X.xe s
noncomputable def TruR(X:Cx)(r:V→Hp→(Bool→Hp→Prop)→Prop):Prop:=
 ∀(pins:List (Addr×Obj)) (s:Shared) (σ:St) (H:Hp) (x:V) (v:Value) (Q:Bool→Hp→Prop),Inv X pins σ H s→RelV x v→r x H Q →
  wpAny (model X.prog X.w) X.A (truthy v) (TP X pins σ Q) X.xe s
noncomputable def tOp(r:R2)(ta tb:TE):TE:=fun σ H Q=>ta σ H fun x H1=>tb σ H1 fun y H2=>r x y H2 Q
noncomputable def tUn(r:V→Hp→VK→Prop)(ta:TE):TE:=fun σ H Q=>ta σ H fun x H1=>r x H1 Q
noncomputable def rI(C:Int→Int→Prop)(g:Int→Int→V):R2:=fun x y H Q=>∃i j,x=.int i∧y=.int j∧C i j∧Q (g i j) H
noncomputable def rI0(g:Int→Int→V):R2:=fun x y H Q=>∃i j,x=.int i∧y=.int j∧Q (g i j) H
noncomputable def rU(g:Int→V):V→Hp→VK→Prop:=fun x H Q=>∃i,x=.int i∧Q (g i) H
section
variable{X:Cx}{a b c:Expr}{ta tb tc:TE}{pos:Pos}
theorem zh4(ha:PE X a ta)(hb:PE X b tb){pins:List (Addr×Obj)}{s:Shared}{σ:St}{H:Hp}{R:V→V→Hp→Prop}(I:Inv X pins σ H s)
  (h:ta σ H fun x H1=>tb σ H1 fun y H2=>R x y H2) {Q:Value→Shared→Prop} {f:Value→Value→Sem Value}
  (hf:∀v u s2 x y H2,Inv X pins σ H2 s2→RelV x v→RelV y u→R x y H2→wpAny (model X.prog X.w) X.A (f v u) Q X.xe s2) :
  wpAny (model X.prog X.w) X.A (eval a X.env) (fun v s₁=>wpAny (model X.prog X.w) X.A (eval b X.env) (fun u s₂=>wpAny (model X.prog X.w) X.A (f v u) Q X.xe s₂) X.xe s₁) X.xe s:=by
 refine thn (ha pins s σ H _ I h) fun v s1 z_=>?_
 refine byc fun zG=>?_
 obtain⟨x,H1,I1,r1,q1⟩:=z_
 refine zG ?_
 refine thn (hb pins s1 σ H1 _ I1 q1) fun u s2 z_=>?_
 refine byc fun zG=>?_
 obtain⟨y,H2,I2,r2,q2⟩:=z_
 refine zG ?_
 exact hf v u s2 x y H2 I2 r1 r2 q2
theorem pe_op{op:Operator}{r:R2}(ho:OpR X (binaryOp op) r)(ha:PE X a ta)(hb:PE X b tb):PE X (.BinOp a op b pos) (tOp r ta tb):=by
 intro pins s σ H Q I h
 exact wpAny_BinOp (zh4 ha hb I h fun v u s2 x y H2 I2 rx ry q=>ho pins s2 σ H2 x y v u Q I2 rx ry q)
theorem pe_un{op:UnaryOp}{r:V→Hp→VK→Prop}(ho:UnR X (unaryOp op) r)(ha:PE X a ta):PE X (.UnaryOp op a pos) (tUn r ta):=by
 intro pins s σ H Q I h
 exact UnaryOp_ (thn (ha pins s σ H _ I h) fun v s1 ⟨x,H1,I1,r1,q1⟩=>ho pins s1 σ H1 x v Q I1 r1 q1)
theorem opI{f:Value→Value→Sem Value}{C:Int→Int→Prop}{g:Int→Int→Int}
  (rule:∀(i j:Int) (t u:Tok) (s:Shared) (Q:Value→Shared→Prop) (E:Value→Shared→Prop),C i j→Q (.int (g i j) s.toks) { s with toks:=s.toks+1 }→wpAny (model X.prog X.w) X.A (f (.int i t) (.int j u)) Q E s) :
  OpR X f (rI C fun i j=>.int (g i j)):=by
 intro pins s σ H x y v u Q I rx ry h
 refine byc fun zG=>?_
 obtain⟨i,j,rfl,rfl,hc,q⟩:=h
 obtain⟨t,rfl⟩:=rx
 obtain⟨t',rfl⟩:=ry
 refine zG ?_
 exact rule i j t t' s _ _ hc ⟨.int (g i j),H,I.tok _,⟨_,rfl⟩,q⟩
theorem opI0{f:Value→Value→Sem Value}{g:Int→Int→Int}
  (rule:∀(i j:Int) (t u:Tok) (s:Shared) (Q:Value→Shared→Prop) (E:Value→Shared→Prop),Q (.int (g i j) s.toks) { s with toks:=s.toks+1 }→wpAny (model X.prog X.w) X.A (f (.int i t) (.int j u)) Q E s) :
  OpR X f (rI0 fun i j=>.int (g i j)):=by
 intro pins s σ H x y v u Q I rx ry h
 refine byc fun zG=>?_
 obtain⟨i,j,rfl,rfl,q⟩:=h
 obtain⟨t,rfl⟩:=rx
 obtain⟨t',rfl⟩:=ry
 refine zG ?_
 exact rule i j t t' s _ _ ⟨.int (g i j),H,I.tok _,⟨_,rfl⟩,q⟩
theorem zd7{f:Value→Value→Sem Value}{g:Int→Int→Bool}
  (rule:∀(i j:Int) (t u:Tok) (s:Shared) (Q:Value→Shared→Prop) (E:Value→Shared→Prop),Q (.bool (g i j)) s→wpAny (model X.prog X.w) X.A (f (.int i t) (.int j u)) Q E s) :
  OpR X f (rI0 fun i j=>.bl (g i j)):=by
 intro pins s σ H x y v u Q I rx ry h
 refine byc fun zG=>?_
 obtain⟨i,j,rfl,rfl,q⟩:=h
 obtain⟨t,rfl⟩:=rx
 obtain⟨t',rfl⟩:=ry
 refine zG ?_
 exact rule i j t t' s _ _ ⟨.bl (g i j),H,I,rfl,q⟩
noncomputable def CDiv(i j:Int):Prop:=0<j∧j<1073741824
noncomputable def CMul(i j:Int):Prop:=(-(2 ^ 64)<i∧i<2 ^ 64)∨(-(2 ^ 64)<j∧j<2 ^ 64)
theorem CMul.ok{i j:Int}(h:CMul i j):IntMulOk i j:=by
 rcases h with ⟨h1,h2⟩|⟨h1,h2⟩
 ·exact .of_left (intBits_le_64 h1 h2)
 ·exact .of_right (intBits_le_64 h1 h2)
theorem op_add:OpR X (binaryOp .Add) (rI0 fun i j=>.int (i+j)):=opI0 fun _ _ _ _ _ _ _ q=>add_int q
theorem zd2:OpR X (binaryOp .Sub) (rI0 fun i j=>.int (i-j)):=opI0 fun _ _ _ _ _ _ _ q=>sub_int q
theorem op_mul:OpR X (binaryOp .Mult) (rI CMul fun i j=>.int (i*j)):=opI fun _ _ _ _ _ _ _ hc q=>mul_int q hc.ok
theorem T3:OpR X (binaryOp .FloorDiv) (rI CDiv fun i j=>.int (i / j)):=opI fun i j _ _ _ _ _ hc q=>by
 have h1:(0:Int)<j:=hc.1
 have h2:j<1073741824:=hc.2
 exact floordiv_int (by lia) (by rw[Int.fdiv_eq_ediv_of_nonneg i (by lia)];exact q) (.inl (PyProof.noPylong_small (by lia)))
theorem zd4:OpR X (binaryOp .Mod) (rI (fun _ j=>0<j) fun i j=>.int (i%j)):=opI fun i j _ _ _ _ _ hc q=>by
 have h1:(0:Int)<j:=hc
 exact mod_int' (by lia) (by rw[Int.fmod_eq_emod_of_nonneg i (by lia)];exact q)
theorem unI{f:Value→Sem Value}{g:Int→Int}
  (rule:∀(i:Int) (t:Tok) (s:Shared) (Q:Value→Shared→Prop) (E:Value→Shared→Prop),Q (.int (g i) s.toks) { s with toks:=s.toks+1 }→wpAny (model X.prog X.w) X.A (f (.int i t)) Q E s) :
  UnR X f (rU fun i=>.int (g i)):=by
 intro pins s σ H x v Q I rx h
 refine byc fun zG=>?_
 obtain⟨i,rfl,q⟩:=h
 obtain⟨t,rfl⟩:=rx
 refine zG ?_
 exact rule i t s _ _ ⟨.int (g i),H,I.tok _,⟨_,rfl⟩,q⟩
theorem za1:UnR X (unaryOp .USub) (rU fun i=>.int (-i)):=unI fun _ _ _ _ _ q=>neg_int q
end
noncomputable def scal:V→V→Bool
 |.non,.non=>true | .non,.int _=>true | .int _,.non=>true | .non,.bl _=>true | .bl _,.non=>true | .non,.str _=>true | .str _,.non=>true
 |.int _,.int _=>true | .bl _,.bl _=>true | .str _,.str _=>true | .byt _,.byt _=>true
 |.int _,.str _=>true | .str _,.int _=>true | .bl _,.str _=>true | .str _,.bl _=>true
 |_,_=>false
noncomputable def rEq:R2:=fun x y H Q=>scal x y=true∧Q (.bl (decide (x=y))) H
noncomputable def rNe:R2:=fun x y H Q=>scal x y=true∧Q (.bl (!decide (x=y))) H
theorem YL{i j:Int}:decide (V.int i=V.int j)=(i==j):=by
 rw[Bool.eq_iff_iff]
 simp
theorem MU{i j:Bool}:decide (V.bl i=V.bl j)=(i==j):=by
 rw[Bool.eq_iff_iff]
 simp
theorem YK{i j:Str}:decide (V.str i=V.str j)=(i==j):=by
 rw[Bool.eq_iff_iff]
 simp
theorem J1{i j:Array UInt8}:decide (V.byt i=V.byt j)=(i.toList==j.toList):=by
 rw[Bool.eq_iff_iff]
 cases i
 cases j
 simp
section
variable{X:Cx}{a b c:Expr}{ta tb tc:TE}{pos:Pos}
theorem yi{pins:List (Addr×Obj)}{σ:St}{H:Hp}{s:Shared}{Q:VK}{k k':Bool}(I:Inv X pins σ H s)(q:Q (.bl k) H)(e:k=k'):EP X pins σ Q (.bool k') s:=by
 subst e
 exact⟨.bl k,H,I,rfl,q⟩
theorem op_eq:OpR X (compareOp .Eq) rEq:=by
 intro pins s σ H x y v u Q I rx ry h
 obtain⟨hs,q⟩:=h
 cases x with
 |non=>
  cases rx
  cases y with
  |non=>cases ry;exact PySem.EqNone.eq_none_none (yi I q (by simp))
  |bl j=>cases ry;exact PySem.EqNone.eq_none_bool (yi I q (by simp))
  |int j=>obtain⟨t',rfl⟩:=ry;exact PySem.EqNone.eq_none_int (yi I q (by simp))
  |str j=>obtain⟨t',rfl⟩:=ry;exact PySem.EqNone.eq_none_str (yi I q (by simp))
  |_=>exact absurd (show false=true from hs) Bool.false_ne_true
 |bl i=>
  cases rx
  cases y with
  |non=>cases ry;exact PySem.EqNone.eq_bool_none (yi I q (by simp))
  |bl j=>cases ry;exact eq_bool (yi I q MU)
  |str j=>obtain⟨t',rfl⟩:=ry;exact PySem.EqMixed.eq_bool_str (yi I q (by simp))
  |_=>exact absurd (show false=true from hs) Bool.false_ne_true
 |int i=>
  obtain⟨t,rfl⟩:=rx
  cases y with
  |non=>cases ry;exact PySem.EqNone.eq_int_none (yi I q (by simp))
  |int j=>obtain⟨t',rfl⟩:=ry;exact eq_int (yi I q YL)
  |str j=>obtain⟨t',rfl⟩:=ry;exact PySem.EqMixed.eq_int_str (yi I q (by simp))
  |_=>exact absurd (show false=true from hs) Bool.false_ne_true
 |str i=>
  obtain⟨t,rfl⟩:=rx
  cases y with
  |non=>cases ry;exact PySem.EqNone.eq_str_none (yi I q (by simp))
  |bl j=>cases ry;exact PySem.EqMixed.eq_str_bool (yi I q (by simp))
  |int j=>obtain⟨t',rfl⟩:=ry;exact PySem.EqMixed.eq_str_int (yi I q (by simp))
  |str j=>obtain⟨t',rfl⟩:=ry;exact eq_str (yi I q YK)
  |_=>exact absurd (show false=true from hs) Bool.false_ne_true
 |byt i=>
  obtain⟨t,rfl⟩:=rx
  cases y with
  |byt j=>obtain⟨t',rfl⟩:=ry;exact PySem.W.eq_bytes (yi I q J1)
  |_=>exact absurd (show false=true from hs) Bool.false_ne_true
 |_=>cases y <;> exact absurd (show false=true from hs) Bool.false_ne_true
theorem op_ne:OpR X (compareOp .NotEq) rNe:=by
 intro pins s σ H x y v u Q I rx ry h
 obtain⟨hs,q⟩:=h
 cases x with
 |non=>
  cases rx
  cases y with
  |non=>cases ry;exact PySem.EqNone.ne_none_none (yi I q (by simp))
  |bl j=>cases ry;exact PySem.EqNone.ne_none_bool (yi I q (by simp))
  |int j=>obtain⟨t',rfl⟩:=ry;exact PySem.EqNone.ne_none_int (yi I q (by simp))
  |str j=>obtain⟨t',rfl⟩:=ry;exact PySem.EqNone.ne_none_str (yi I q (by simp))
  |_=>exact absurd (show false=true from hs) Bool.false_ne_true
 |bl i=>
  cases rx
  cases y with
  |non=>cases ry;exact PySem.EqNone.ne_bool_none (yi I q (by simp))
  |bl j=>cases ry;exact ne_bool (yi I q (congrArg not MU))
  |str j=>obtain⟨t',rfl⟩:=ry;exact PySem.EqMixed.ne_bool_str (yi I q (by simp))
  |_=>exact absurd (show false=true from hs) Bool.false_ne_true
 |int i=>
  obtain⟨t,rfl⟩:=rx
  cases y with
  |non=>cases ry;exact PySem.EqNone.ne_int_none (yi I q (by simp))
  |int j=>obtain⟨t',rfl⟩:=ry;exact ne_int (yi I q (congrArg not YL))
  |str j=>obtain⟨t',rfl⟩:=ry;exact PySem.EqMixed.ne_int_str (yi I q (by simp))
  |_=>exact absurd (show false=true from hs) Bool.false_ne_true
 |str i=>
  obtain⟨t,rfl⟩:=rx
  cases y with
  |non=>cases ry;exact PySem.EqNone.ne_str_none (yi I q (by simp))
  |bl j=>cases ry;exact PySem.EqMixed.ne_str_bool (yi I q (by simp))
  |int j=>obtain⟨t',rfl⟩:=ry;exact PySem.EqMixed.ne_str_int (yi I q (by simp))
  |str j=>obtain⟨t',rfl⟩:=ry;exact ne_str (yi I q (congrArg not YK))
  |_=>exact absurd (show false=true from hs) Bool.false_ne_true
 |byt i=>
  obtain⟨t,rfl⟩:=rx
  cases y with
  |byt j=>obtain⟨t',rfl⟩:=ry;exact PySem.W.ne_bytes (yi I q (congrArg not J1))
  |_=>exact absurd (show false=true from hs) Bool.false_ne_true
 |_=>cases y <;> exact absurd (show false=true from hs) Bool.false_ne_true
theorem op_lt:OpR X (compareOp .Lt) (rI0 fun i j=>.bl (decide (i<j))):=zd7 fun _ _ _ _ _ _ _ q=>lt_int q
theorem op_gt:OpR X (compareOp .Gt) (rI0 fun i j=>.bl (decide (j<i))):=zd7 fun _ _ _ _ _ _ _ q=>gt_int q
theorem op_ge:OpR X (compareOp .GtE) (rI0 fun i j=>.bl (decide (j≤i))):=zd7 fun _ _ _ _ _ _ _ q=>ge_int q
theorem op_in_str:OpR X (compareOp .In) (fun x y H Q=>∃i j,x=.str i∧y=.str j∧Q (.bl (!(Builtin.Str.occurrences j i 0 j.length 1).isEmpty)) H):=by
 intro pins s σ H x y v u Q I rx ry h
 refine byc fun zG=>?_
 obtain⟨i,j,rfl,rfl,q⟩:=h
 obtain⟨t,rfl⟩:=rx
 obtain⟨t',rfl⟩:=ry
 refine zG ?_
 exact in_str (yi I q rfl)
theorem zd5:OpR X (compareOp .Is) (fun x y H Q=>y=.non∧Q (.bl (decide (x=.non))) H):=by
 intro pins s σ H x y v u Q I rx ry h
 obtain⟨rfl,q⟩:=h
 cases ry
 refine is_none_gen (yi I q ?_)
 cases x <;> first
  | (cases rx;rfl)
  | (obtain⟨t,rfl⟩:=rx;rfl)
theorem T2:OpR X (compareOp .IsNot) (fun x y H Q=>y=.non∧Q (.bl (!decide (x=.non))) H):=by
 intro pins s σ H x y v u Q I rx ry h
 obtain⟨rfl,q⟩:=h
 cases ry
 refine isnot_none_gen (yi I q ?_)
 cases x <;> first
  | (cases rx;rfl)
  | (obtain⟨t,rfl⟩:=rx;rfl)
theorem OpR.or{f:Value→Value→Sem Value}{r r':R2}(h:OpR X f r)(h':OpR X f r'):OpR X f (fun x y H Q=>r x y H Q∨r' x y H Q):=by
 intro pins s σ H x y v u Q I rx ry q
 rcases q with q|q
 ·exact h pins s σ H x y v u Q I rx ry q
 ·exact h' pins s σ H x y v u Q I rx ry q
theorem zT(b:Expr){op:CmpOp}(h:op≠.In:=by decide)(h2:op≠.NotIn:=by decide):behindInMarks op b=false:=by
 have e1:(op==CmpOp.In)=false:=by cases op <;> first|rfl|exact absurd rfl h
 have e2:(op==CmpOp.NotIn)=false:=by cases op <;> first|rfl|exact absurd rfl h2
 cases b <;> simp[behindInMarks,e1,e2]
theorem TX{op:CmpOp}{r:R2}(ho:OpR X (compareOp op) r)(ha:PE X a ta)(hb:PE X b tb)(hm:behindInMarks op b=false):PE X (.Compare a [op] [b] pos) (tOp r ta tb):=by
 intro pins s σ H Q I h
 exact wpAny_Compare1 (zh4 ha hb I h fun v u s2 x y H2 I2 rx ry q=>ho pins s2 σ H2 x y v u Q I2 rx ry q) hm
noncomputable def LR(t:TE):TT:=fun σ H Q=>t σ H fun x H'=>∃k,x=.bl k∧Q k H'
theorem WX{op:CmpOp}{r:R2}(ho:OpR X (compareOp op) r)(ha:PE X a ta)(hb:PE X b tb)(hm:behindInMarks op b=false):PT X (.Compare a [op] [b] pos) (LR (tOp r ta tb)):=by
 intro pins s σ H Q I h
 refine wpAny_isTrue_Compare1 (thn (ha pins s σ H _ I h) fun v s1 ⟨x,H1,I1,r1,q1⟩=>thn (hb pins s1 σ H1 _ I1 q1) fun u s2 ⟨y,H2,I2,r2,q2⟩=>
  thn (ho pins s2 σ H2 x y v u _ I2 r1 r2 q2) fun c s3 ⟨z,H3,I3,r3,k,e,q3⟩=>?_) hm
 subst e
 cases r3
 exact wpAny_truthy_bool ⟨H3,I3,q3⟩
noncomputable def zi0(K:Frag)(x:V)(H:Hp)(k:Bool):Prop:=
 match x with
 |.non=>k=false
 |.bl b=>k=b
 |.int i=>k=(i != 0)
 |.str y=>y.length≤sizeLine∧k=((y.length:Int) != 0)
 |.byt y=>y.size≤sizeLine∧k=((y.size:Int) != 0)
 |.ref p=>(∃xs,SqL K H p xs∧k = !xs.isEmpty)∨(∃xs,SqT K H p xs∧k = !xs.isEmpty)∨∃kvs,H p=some (.dK kvs)∧k = !kvs.isEmpty
 |_=>False
theorem UZ{κ:Type}{kvs:List (κ×V)}{vs:List (κ×Value)}(r:KV kvs vs):(!vs.isEmpty) = !kvs.isEmpty:=by
 cases r <;> rfl
theorem Xt{xs:List V}{its:List Value}(r:Vals xs its):(!its.toArray.isEmpty) = !xs.isEmpty:=by
 cases r <;> simp
theorem jX:(sizeLine:Nat)<2 ^ 63:=by rw[sizeLine_eq];decide
theorem tru_ok:TruR X (fun x H Q=>∃k,zi0 X.K x H k∧Q k H):=by
 intro pins s σ H x v Q I rx h
 obtain⟨k,e,q⟩:=h
 have hl:=jX
 have hs:sizeLine=16777216:=sizeLine_eq
 cases x with
 |non=>
  cases rx
  have e':k=false:=e
  subst e'
  exact truthy_none ⟨H,I,q⟩
 |bl b=>
  cases rx
  have e':k=b:=e
  subst e'
  exact wpAny_truthy_bool ⟨H,I,q⟩
 |int i=>
  obtain⟨t,rfl⟩:=rx
  have e':k=(i != 0):=e
  subst e'
  exact PySem.P.truthy_int ⟨H,I,q⟩
 |str y=>
  obtain⟨t,rfl⟩:=rx
  obtain⟨hy,e'⟩:y.length≤sizeLine∧k=((y.length:Int) != 0):=e
  subst e'
  exact PySem.P.truthy_str (by lia) ⟨H,I.tok _,q⟩
 |byt y=>
  obtain⟨t,rfl⟩:=rx
  obtain⟨hy,e'⟩:y.size≤sizeLine∧k=((y.size:Int) != 0):=e
  subst e'
  exact PySem.W.truthy_bytes (by lia) ⟨H,I.tok _,q⟩
 |ref p=>
  cases rx
  have e':(∃xs,SqL X.K H p xs∧k = !xs.isEmpty)∨(∃xs,SqT X.K H p xs∧k = !xs.isEmpty)∨∃kvs,H p=some (.dK kvs)∧k = !kvs.isEmpty:=e
  rcases e' with ⟨xs,hx,e'⟩|⟨xs,hx,e'⟩|⟨kvs,hx,e'⟩
  ·subst e'
   refine byc fun zG=>?_
   obtain⟨its,r,pl,hz⟩:=I.list hx
   refine zG ?_
   have hlen:=r.length
   exact wpAny_truthy_list pl.isList (by simp only[size_toArray];lia) ⟨H,I.tok _,by rw[Xt r];exact q⟩
  ·subst e'
   refine byc fun zG=>?_
   obtain⟨its,r,pl,hz⟩:=I.tuple hx
   refine zG ?_
   have hlen:=r.length
   exact truthy_tuple pl (by simp only[size_toArray];lia) ⟨H,I.tok _,by rw[Xt r];exact q⟩
  ·subst e'
   refine byc fun zG=>?_
   obtain⟨hz,hS,vs,r,m⟩:kvs.length≤sizeLine∧(p==sysModules)=false∧∃vs,KV kvs vs∧s.heap.DictOf (Vj X.prog X.w) p vs:=I.hok p _ hx
   refine zG ?_
   have hlen:kvs.length=vs.length:=Paired.length r
   exact wpAny_truthy_dict hS m (by lia) ⟨H,I.tok _,by rw[UZ r];exact q⟩
 |_=>exact(show False from e).elim
theorem Gq(ha:PE X a ta)(he:∀whole,isTrue a X.env whole=(do let v ← whole;standAt a.pos;holding [v] (truthy v))) :
  PT X a (fun σ H Q=>ta σ H fun x H'=>∃k,zi0 X.K x H' k∧Q k H'):=by
 intro pins s σ H Q I h
 exact isTrue_plain (thn (ha pins s σ H _ I h) fun v s1 ⟨x,H1,I1,r1,q1⟩=>tru_ok pins s1 σ H1 x v Q I1 r1 q1) (he _)
theorem op_add_str:OpR X (binaryOp .Add) (fun x y H Q=>∃i j,x=.str i∧y=.str j∧i.length+j.length≤sizeLine∧Q (.str (i++j)) H):=by
 intro pins s σ H x y v u Q I rx ry h
 refine byc fun zG=>?_
 obtain⟨i,j,rfl,rfl,hz,q⟩:=h
 obtain⟨t,rfl⟩:=rx
 obtain⟨t',rfl⟩:=ry
 refine zG ?_
 exact add_str (fun t' tk=>⟨.str (i++j),H,I.tok _,⟨_,rfl⟩,q⟩) hz
theorem vals1{x:V}{us:List Value}(r:Vals [x] us):∃u,us=[u]∧RelV x u:=by
 cases r with
 |cons r1 r2=>cases r2;exact⟨_,rfl,r1⟩
theorem vals2{x y:V}{us:List Value}(r:Vals [x,y] us):∃u w',us=[u,w']∧RelV x u∧RelV y w':=by
 cases r with
 |cons r1 r2=>
  cases r2 with
  |cons r3 r4=>cases r4;exact⟨_,_,rfl,r1,r3⟩
theorem QT(hc:X.calm=true):CallR X (.builtin "max") (fun xs H Q=>∃i j,xs=[.int i,.int j]∧Q (.int (if j > i then j else i)) H):=by
 intro pins s σ H xs us Q I r h
 refine byc fun zG=>?_
 obtain⟨i,j,rfl,q⟩:=h
 obtain⟨u,w',rfl,⟨t,rfl⟩,⟨t',rfl⟩⟩:=vals2 r
 refine zG ?_
 refine max_two_ints (I.ok.hd hc) fun h' tk k=>⟨_,H,I.kept k,?_,q⟩
 by_cases hj:j > i
 ·rw[if_pos hj,if_pos hj];exact⟨_,rfl⟩
 ·rw[if_neg hj,if_neg hj];exact⟨_,rfl⟩
theorem QR(hc:X.calm=true):CallR X (.builtin "min") (fun xs H Q=>∃i j,xs=[.int i,.int j]∧Q (.int (if j<i then j else i)) H):=by
 intro pins s σ H xs us Q I r h
 refine byc fun zG=>?_
 obtain⟨i,j,rfl,q⟩:=h
 obtain⟨u,w',rfl,⟨t,rfl⟩,⟨t',rfl⟩⟩:=vals2 r
 refine zG ?_
 refine min_two_ints (I.ok.hd hc) fun h' tk k=>⟨_,H,I.kept k,?_,q⟩
 by_cases hj:j<i
 ·rw[if_pos hj,if_pos hj];exact⟨_,rfl⟩
 ·rw[if_neg hj,if_neg hj];exact⟨_,rfl⟩
end
structure ObjM(h:Heap)(x dx C:Addr)(mA:Str→Option Value):Prop where
 obj:h.get? x=some (instObj C dx)
 ns:h.Ns1 dx mA
 ne:dx≠x
theorem QA{h:Heap}{dx:Addr}{mA:Str→Option Value}(n:h.Ns1 dx mA):∃od,h.get? dx=some od∧∀name,lookIn name od=some (mA name):=by
 refine byc fun zG=>?_
 obtain⟨o,es,ep,ho,hd,hk,_,hm⟩:=n
 refine zG ?_
 refine⟨o,ho,fun name=>?_⟩
 have e:=hm name
 unfold nsFind findBy at e
 rw[← Array.find?_toList] at e
 unfold lookIn
 rw[hd]
 dsimp only
 split
 ·rename_i y q
  rw[q] at e
  exact congrArg some e
 ·rename_i q
  rw[q] at e
  have a:es.toList.any (·.refKey)=false:=by
   rw[List.any_eq_false]
   intro y hy
   obtain⟨z,t,hkey⟩:=hk y (Array.mem_toList_iff.mp hy)
   simp[DictEntry.refKey,hkey]
  have a':¬ es.toList.any (·.refKey)=true:=by rw[a];exact Bool.false_ne_true
  rw[if_neg a']
  exact congrArg some e
theorem ObjM.look{h:Heap}{x dx C:Addr}{mA:Str→Option Value}(I:ObjM h x dx C mA):∃od,PySem.W.InstAt h x (instObj C dx) C (some od)∧∀name,lookIn name od=some (mA name):=
 let ⟨od,ho,hl⟩:=QA I.ns
 ⟨od,⟨I.obj,rfl,rfl,ho⟩,hl⟩
section
variable{prog:Program}{w:World}{A:Around}{E:Value→Shared→Prop}{s:Shared}{K:Frag}{x dx C f:Addr}{mA:Str→Option Value}{name:Str}{v:Value}
theorem Lv{expr:Bool}{Q:Value→Shared→Prop}(X:K.In s.heap)(I:ObjM s.heap x dx C mA)(hg:plainGet K C name=true)(hh:hasDictIn K C=true)
  (ha:findIn K (.ref C) name=some none) (hv:mA name=some v) (hv':PySem.W.handedIn v=true) (h:Q v { s with toks:=s.toks+1 }) :
  wpAny (model prog w) A (getAttr (.ref x) name expr) Q E s:=by
 obtain⟨od,J,hl⟩:=I.look
 exact PySem.W.get_value X J (plainGet_of hg).1 (PySem.W.findObj_own hh ha rfl (by rw[hl,hv])) hv' h
theorem MA{pl:Sem Bool}{Q:Value×List Value→Shared→Prop}(X:K.In s.heap)(I:ObjM s.heap x dx C mA)(hg:plainGet K C name=true)
  (hf:findIn K (.ref C) name=some (some (.ref f))) (ht:isFn K (.ref f)=true) (hv:mA name=none) (h:Q (.ref f,[.ref x]) s) :
  wpAny (model prog w) A (getMethod (.ref x) name pl) Q E s:=by
 obtain⟨od,J,hl⟩:=I.look
 exact PySem.W.method_fn X J (plainGet_of hg).1 (plainGet_of hg).2 hf (beq_iff_eq.mp ht) (by show(lookIn name od).map (·.isSome)=some false;rw[hl,hv];rfl) h
theorem Tq{ns:List Str}{Q:Unit→Shared→Prop}(X:K.In s.heap)(I:ObjM s.heap x dx C mA)
  (hs:findIn K (.ref C) "__setattr__" = some (some (.builtin "object.__setattr__"))) (hp:plainOver K C=true) (ht:takerIn K C name=some none) (hh:hasDictIn K C=true)
  (hw:PySem.Within mA ns) (hsz:ns.length≤sizeLine)
  (h:∀h',ObjM h' x dx C (fun y=>if y=name then some v else mA y)→Heap.SameBut dx s.heap h'→Q () { s with heap:=h',toks:=s.toks+2 }) :
  wpAny (model prog w) A (setAttr (.ref x) name v) Q E s:=by
 obtain⟨od,J,hl⟩:=I.look
 refine PySem.W.set_plain X J hs (PySem.W.osa_open (s:={ s with toks:=s.toks+1 }) (r:=none) X J hp ht fun b=>?_)
 obtain⟨cd,hc,hd'⟩:=PySem.W.any_some hh
 have hx:s.heap.get? x=some ⟨.ref C,some dx,.plain,#[]⟩:=I.obj
 refine wpAny_bind (wpAny_pure (wpAny_bind (wpAny_bind (wpAny_loadPart hx (wpAny_bind (PySem.W.Looks.here (s:={ s with toks:=s.toks+1 }) (PySem.W.looks_clsIn X hc) ?_))))))
 rw[hd']
 refine wpAny_pure (a:=some dx) (wpAny_bind (wpAny_pure (wpAny_bind ?_)))
 refine wpAny_nsSet1 (s:={ s with toks:=s.toks+1 }) I.ns fun h' hn2 hs2=>?_
 refine byc fun zG=>?_
 obtain⟨oD,esD,epD,hoD,hdD,hcD⟩:=hn2.count (PySem.Within.cons name v hw)
 refine zG ?_
 refine wpAny_bind (wpAny_lookBehind hoD (by rw[hdD];exact pastItsLine_dict (le_trans hcD (by rw[length_cons];lia))) ?_)
 exact wpAny_pure (h _ ⟨(hs2.2 _ (Ne.symm I.ne)).trans I.obj,hn2,I.ne⟩ hs2)
theorem Mf{R:Result→Shared→Prop}{vs:List Value}{kw:List (Str×Value)}(X:K.In s.heap)(hm:makesIn K C=true)
  (hi:findIn K (.ref C) "__init__" = some (some (.ref f))) (hf:PySem.W.typeIn K (.ref f)=some (.type "function"))
  (h:codeAny (model prog w) (A.under (.builtin "type.__call__" ⟨.ref C::vs,kw⟩)) (.call (.ref f) ⟨.ref (s.heap.objs.size+1)::vs,kw⟩) (PySem.W.InitBack (s.heap.objs.size+1) R)
   { s with heap:=(s.heap.push emptyDict).push (instObj C s.heap.objs.size) }) :
  codeAny (model prog w) A (.call (.ref C) ⟨vs,kw⟩) R s:=by
 refine byc fun zG=>?_
 obtain⟨hh,g,d,t,os⟩:=s
 refine zG ?_
 exact PySem.W.make_core (PySem.W.makes_of X hm) (PySem.W.looks_findIn X hi) (fun self=>PySem.W.bind_fn X self hf) (.inl rfl) h
end
noncomputable def wz(f:Str)(v:V):List (Str×V)→List (Str×V)
 |[]=>[(f,v)]
 | (g,x)::r=>if g=f then (g,v)::r else (g,x)::wz f v r
theorem Yb(f g:Str)(v:V):∀fs:List (Str×V),(wz f v fs).lookup g=if g=f then some v else fs.lookup g:=by
 intro l_
 induction l_ with
 |nil=>
  show List.lookup g [(f,v)]=_
  by_cases h:g=f
  ·have hb:(g==f)=true:=beq_iff_eq.mpr h
   simp only[List.lookup,hb,if_pos h]
  ·have hb:(g==f)=false:=beq_eq_false_iff_ne.mpr h
   simp only[List.lookup,hb,if_neg h]
 |cons p_ r ih_=>
  obtain⟨k,x⟩:=p_
  have ih:=ih_
  rw[show wz f v ((k,x)::r)=(if k=f then (k,v)::r else (k,x)::wz f v r) from rfl]
  by_cases hk:k=f
  ·rw[if_pos hk]
   by_cases h:g=k
   ·have hb:(g==k)=true:=beq_iff_eq.mpr h
    simp only[List.lookup,hb,if_pos (h.trans hk)]
   ·have hb:(g==k)=false:=beq_eq_false_iff_ne.mpr h
    simp only[List.lookup,hb,if_neg (fun e:g=f=>h (e.trans hk.symm))]
  ·rw[if_neg hk]
   by_cases h:g=k
   ·have hb:(g==k)=true:=beq_iff_eq.mpr h
    simp only[List.lookup,hb,if_neg (fun e:g=f=>hk (h.symm.trans e))]
   ·have hb:(g==k)=false:=beq_eq_false_iff_ne.mpr h
    simp only[List.lookup,hb]
    exact ih
theorem Z1(f:Str)(v:V):∀fs:List (Str×V),f∈(wz f v fs).map (·.1)∧∀g,g∈fs.map (·.1)→g∈(wz f v fs).map (·.1):=by
 intro l_
 induction l_ with
 |nil=>
  exact⟨by simp[wz],fun g h=>by simp at h⟩
 |cons p_ r ih_=>
  obtain⟨k,x⟩:=p_
  obtain⟨i1,i2⟩:=ih_
  rw[show wz f v ((k,x)::r)=(if k=f then (k,v)::r else (k,x)::wz f v r) from rfl]
  by_cases hk:k=f
  ·rw[if_pos hk]
   subst hk
   exact⟨by simp,fun g h=>by simpa using h⟩
  ·rw[if_neg hk]
   refine⟨?_,fun g h=>?_⟩
   ·rw[map_cons]
    exact mem_cons_of_mem _ i1
   ·rw[map_cons] at h ⊢
    rcases mem_cons.mp h with e|e
    ·exact mem_cons.mpr (.inl e)
    ·exact mem_cons_of_mem _ (i2 g e)
theorem Yc(f:Str)(v:V):∀fs:List (Str×V),(wz f v fs).length≤fs.length+1:=by
 intro l_
 induction l_ with
 |nil=>
  simp[wz]
 |cons p_ r ih_=>
  obtain⟨k,x⟩:=p_
  have ih:=ih_
  rw[show wz f v ((k,x)::r)=(if k=f then (k,v)::r else (k,x)::wz f v r) from rfl]
  by_cases hk:k=f
  ·rw[if_pos hk,length_cons,length_cons];lia
  ·rw[if_neg hk,length_cons,length_cons];lia
theorem RelO.some_of{v:V}{o:Option Value}(r:RelO (some v) o):∃u,o=some u∧RelV v u:=by
 cases o with
 |none=>exact(show False from r).elim
 |some u=>exact⟨u,rfl,r⟩
theorem RelO.none_of{o:Option Value}(r:RelO none o):o=none:=by
 cases o with
 |none=>rfl
 |some u=>exact(show False from r).elim
theorem QJ{v:V}{u:Value}(r:RelV v u):PySem.W.handedIn u=true:=by
 cases v with
 |non=>cases (show u=Value.none from r);rfl
 |bl b=>cases (show u=Value.bool b from r);rfl
 |int i=>obtain⟨t,e⟩:=(show ∃t,u=Value.int i t from r);cases e;rfl
 |str x=>obtain⟨t,e⟩:=(show ∃t,u=Value.str x t from r);cases e;rfl
 |byt b=>obtain⟨t,e⟩:=(show ∃t,u=Value.bytes b t from r);cases e;rfl
 |flt b=>obtain⟨t,e⟩:=(show ∃t,u=Value.float b t from r);cases e;rfl
 |ref a=>cases (show u=Value.ref a from r);rfl
 |ty n=>cases (show u=Value.type n from r);rfl
section
variable{P:Program}{w:World}{H H':Hp}{h h':Heap}{a C dx:Addr}{fs fs':List (Str×V)}
theorem Vp(hok:HOk P w H h)(e:H a=some (.ins C dx fs)):∃mA,ObjM h a dx C mA∧(∀f,RelO (fs.lookup f) (mA f))∧PySem.Within mA (fs.map (·.1))∧fs.length≤1000∧H dx=some (.own a):=by
 refine byc fun zG=>?_
 obtain⟨d,z,ne,ob,mA,n,r,q⟩:=(show ObjOk P w H h a (.ins C dx fs) from hok a _ e)
 refine zG ?_
 exact⟨mA,⟨ob,n,ne⟩,r,q,z,d⟩
end
structure Cls(K:Frag)(C:Addr):Prop where
 pg:plainGet K C Str.empty=true
 hd:hasDictIn K C=true
 po:plainOver K C=true
 sa:findIn K (.ref C) "__setattr__" = some (some (.builtin "object.__setattr__"))
theorem Cls.get{K:Frag}{C:Addr}(c:Cls K C)(f:Str):plainGet K C f=true:=c.pg
noncomputable def NoAttr(K:Frag)(C:Addr)(f:Str):Prop:=findIn K (.ref C) f=some none
theorem NoAttr.taker{K:Frag}{C:Addr}{f:Str}(n:NoAttr K C f):takerIn K C f=some none:=by
 unfold takerIn
 rw[show findIn K (.ref C) f=some none from n]
 rfl
structure uM(K:Frag)(C:Addr)(m:Str)(f:Addr):Prop where
 at_:findIn K (.ref C) m=some (some (.ref f))
 fn:isFn K (.ref f)=true
 kp:keepIn K (.ref f)=true
section
variable{X:Cx}{pins:List (Addr×Obj)}{σ:St}{H:Hp}{s:Shared}{a C dx:Addr}{fs:List (Str×V)}{f:Str}{v:V}{A:Around}{E:Value→Shared→Prop}
theorem U2{b:Bool}{Q:Value→Shared→Prop}(I:Inv X pins σ H s)(e:H a=some (.ins C dx fs))(c:Cls X.K C)(n:NoAttr X.K C f)(l:fs.lookup f=some v)
  (h:∀u s',Inv X pins σ H s'→RelV v u→Q u s'):wpAny (model X.prog X.w) A (getAttr (.ref a) f b) Q E s:=by
 refine byc fun zG=>?_
 obtain⟨mA,O,r,_,_,_⟩:=Vp I.hok e
 obtain⟨u,hu,ru⟩:=RelO.some_of (v:=v) (o:=mA f) (by rw[← l];exact r f)
 refine zG ?_
 exact Lv I.kIn O (c.get f) c.hd n hu (QJ ru) (h u _ (I.tok _) ru)
theorem Xz{m:Str}{g:Addr}{pl:Sem Bool}{Q:Value×List Value→Shared→Prop}(I:Inv X pins σ H s)(e:H a=some (.ins C dx fs))(c:Cls X.K C)(k:uM X.K C m g)(l:fs.lookup m=none)
  (h:Q (.ref g,[.ref a]) s):wpAny (model X.prog X.w) A (getMethod (.ref a) m pl) Q E s:=by
 refine byc fun zG=>?_
 obtain⟨mA,O,r,_,_,_⟩:=Vp I.hok e
 refine zG ?_
 have hn:mA m=none:=RelO.none_of (by rw[← l];exact r m)
 exact MA I.kIn O (c.get m) k.at_ k.fn hn h
theorem UI{y:V}{u:Value}{Q:Unit→Shared→Prop}(I:Inv X pins σ H s)(e:H a=some (.ins C dx fs))(c:Cls X.K C)(n:NoAttr X.K C f)(hl:fs.length<1000)(ry:RelV y u)
  (h:∀s',Inv X pins σ (upd H a (.ins C dx (wz f y fs))) s'→Q () s'):wpAny (model X.prog X.w) A (setAttr (.ref a) f u) Q E s:=by
 refine byc fun zG=>?_
 obtain⟨mA,O,r,wi,_,ho⟩:=Vp I.hok e
 refine zG ?_
 have hz:(fs.map (·.1)).length≤sizeLine:=by rw[length_map,sizeLine_eq];lia
 refine Tq I.kIn O c.sa c.po n.taker c.hd wi hz fun h' O' sb=>h _ ?_
 have hd:∃o,h'.get? dx=some o:=let ⟨o,_,_,e',_⟩:=O'.ns;⟨o,e'⟩
 refine I.write (x:=a) (e:=dx) (by rw[e];exact True.intro) (.inr ho) (fun b q hb z=>(sb.2 b hb).trans z) hd ?_
 refine⟨by rw[zr O.ne];exact ho,?_,O.ne,O'.obj,_,O'.ns,fun g=>?_,fun g hg=>?_⟩
 ·have:=Yc f y fs;lia
 ·show RelO ((wz f y fs).lookup g) (if g=f then some u else mA g)
  rw[Yb]
  by_cases q:g=f
  ·rw[if_pos q,if_pos q];exact ry
  ·rw[if_neg q,if_neg q];exact r g
 ·by_cases q:g=f
  ·rw[q];exact(Z1 f y fs).1
  ·refine(Z1 f y fs).2 g (wi g fun z=>hg ?_)
   show(if g=f then some u else mA g)=none
   rw[if_neg q];exact z
theorem Inv.made(I:Inv X pins σ H s):Inv X pins σ (upd (upd H s.heap.objs.size (.own (s.heap.objs.size+1))) (s.heap.objs.size+1) (.ins C s.heap.objs.size []))
  { s with heap:=(s.heap.push emptyDict).push (instObj C s.heap.objs.size) }:=by
 have e1:(s.heap.push emptyDict).get? s.heap.objs.size=some emptyDict:=Heap.get?_push_size s.heap rfl
 have e2:((s.heap.push emptyDict).push (instObj C s.heap.objs.size)).get? (s.heap.objs.size+1)=some (instObj C s.heap.objs.size):=by
  have:=Heap.get?_push_size (s.heap.push emptyDict) (o:=instObj C s.heap.objs.size) rfl
  rwa [Heap.size_push] at this
 have e3:(s.heap.push emptyDict).Ns s.heap.objs.size (fun _=>none):=⟨emptyDict,#[],_,e1,rfl,(fun e he=>absurd he (by simp)),fun _=>rfl⟩
 have I1:=I.laid (a:=s.heap.objs.size) (o:=.own (s.heap.objs.size+1)) (h':=s.heap.push emptyDict) (t':=s.toks) (fun b u q=>get?_push_of_some _ q) (le_refl _) ⟨_,e1⟩
 refine I1.laid (a:=s.heap.objs.size+1) (o:=.ins C s.heap.objs.size []) (t':=s.toks) (fun b u q=>get?_push_of_some _ q) (Nat.le_of_eq (Heap.size_push _ _)) ?_
 have ne:s.heap.objs.size≠s.heap.objs.size+1:=ne_of_lt (Nat.lt_succ_self _)
 refine⟨by rw[zr ne,zB],zero_le _,ne,e2,fun _=>none,(Heap.Ns1.of_empty e3).at fun o q=>get?_push_of_some _ q,fun _=>True.intro,fun y hy=>absurd rfl hy⟩
theorem LL{prog:Program}{w:World}{env:Env}{e:Expr}{f:Str}{pos:Pos}{s:Shared}{Q:Value→Shared→Prop}(hb:attributeBase e f env (eval e env)=eval e env)
  (h:wpAny (model prog w) A (eval e env) (fun o s₁=>wpAny (model prog w) A (getAttr o f true) Q E s₁) E s):wpAny (model prog w) A (eval (.Attribute e f pos) env) Q E s:=
 Attribute_any_ h (by rw[arm_eval_Attribute,hb])
end
noncomputable def tFld(K:Frag)(ta:TE)(f:Str):TE:=fun σ H Q=>ta σ H fun x H1=>∃a C dx fs v,x=.ref a∧H1 a=some (.ins C dx fs)∧Cls K C∧NoAttr K C f∧fs.lookup f=some v∧Q v H1
noncomputable def sFld(K:Frag)(ta tv:TE)(f:Str):TS:=fun D σ H=>tv σ H fun y H1=>ta σ H1 fun x H2=>∃a C dx fs,x=.ref a∧H2 a=some (.ins C dx fs)∧Cls K C∧NoAttr K C f∧fs.length<1000 ∧
 D.nx σ (upd H2 a (.ins C dx (wz f y fs)))
section
variable{X:Cx}{o e value:Expr}{f:Str}{pos pos' tpos:Pos}{ta tv:TE}
theorem GC(he:PE X e ta)(hb:attributeBase e f X.env (eval e X.env)=eval e X.env):PE X (.Attribute e f pos) (tFld X.K ta f):=by
 intro pins s σ H Q I h
 refine LL hb (thn (he pins s σ H _ I h) fun u s1 z_=>?_)
 refine byc fun zG=>?_
 obtain⟨x,H1,I1,rx,a,C,dx,fs,v,ex,ea,c,n,l,q⟩:=z_
 refine zG ?_
 subst ex
 obtain rfl:u=Value.ref a:=rx
 exact U2 I1 ea c n l fun u' s2 I2 ru=>⟨v,H1,I2,ru,q⟩
theorem Gw(ha:PE X o ta)(hv:PE X value tv)(hs:swapsWith value (some (.Attribute o f pos')) pos.line X.env=pure false):PS X (.Assign [.Attribute o f pos'] value pos) (sFld X.K ta tv f):=by
 intro pins s σ H D I h
 refine plainObj_wpAny_Assign_Attribute (thn (hv pins s σ H _ I h) fun u s1 ⟨y,H1,I1,ry,q⟩=>thn (ha pins s1 σ H1 _ I1 q) fun ov s2 z_=>?_) hs
 refine byc fun zG=>?_
 obtain⟨x,H2,I2,rx,a,C,dx,fs,ex,ea,c,n,l,q2⟩:=z_
 refine zG ?_
 subst ex
 obtain rfl:ov=Value.ref a:=rx
 exact UI I2 ea c n l ry fun s3 I3=>⟨σ,_,I3,q2⟩
end
section
variable{X:Cx}{pins:List (Addr×Obj)}{σ:St}{H:Hp}{s:Shared}{A:Around}{E:Value→Shared→Prop}{Q:Value→Shared→Prop}{c:Value}{b:Bool}
end
structure Room(k:Nat)(A:Around):Prop where
 hd:A.handled=none
 dp:A.depth+3*k+5<recursionLimit
 un:A.units+16*k+200<cLine
theorem Room.mono{j k:Nat}{A:Around}(r:Room k A)(h:j≤k):Room j A:=⟨r.hd,by have:=r.dp;lia,by have:=r.un;lia⟩
theorem Room.deeper{k:Nat}{A:Around}(r:Room (k+1) A)(env:Env):Room k (A.deeper env):=
 ⟨r.hd,by have:=r.dp;show A.depth+1+3*k+5<_;lia,by have:=r.un;show A.units+3+16*k+200<_;lia⟩
theorem Room.in1{k:Nat}{A:Around}(r:Room (k+1) A):Room k A.in1:=
 ⟨r.hd,by have:=r.dp;show A.depth+3*k+5<_;lia,by have:=r.un;show A.units+1+16*k+200<_;lia⟩
theorem UX{A:Around}{C:Addr}{us:List Value}{kw:List (Str×Value)}:(A.under (.builtin "type.__call__" ⟨.ref C::us,kw⟩)).depth=A.depth+1:=by
 first|rfl|simp[Around.under,Code.weight,Code.isCreation,Code.isGuard,Code.isCaller,Code.frames,Code.isFrame,guardIds]
theorem UW{A:Around}{C:Addr}{us:List Value}{kw:List (Str×Value)}:(A.under (.builtin "type.__call__" ⟨.ref C::us,kw⟩)).units=A.units+1:=by
 first|rfl|simp[Around.under,Code.cUnits,Code.frames,Code.isFrame]
theorem Room.make{k:Nat}{A:Around}(r:Room (k+1) A)(C:Addr)(us:List Value)(kw:List (Str×Value)):Room k (A.under (.builtin "type.__call__" ⟨.ref C::us,kw⟩)):=
 ⟨r.hd,by have:=r.dp;rw[UX];lia,by have:=r.un;rw[UW];lia⟩
theorem Room.depth{k:Nat}{A:Around}(r:Room k A):A.depth<recursionLimit:=by have:=r.dp;lia
theorem Room.units{k:Nat}{A:Around}(r:Room k A):A.units+64<cLine:=by have:=r.un;lia
noncomputable def za5:TA:=fun _ H Q=>Q [] H
noncomputable def tCons(ta:TE)(tr:TA):TA:=fun σ H Q=>ta σ H fun x H1=>tr σ H1 fun xs H2=>Q (x::xs) H2
section
variable{X:Cx}{e:Expr}{es:List Expr}{te:TE}{t:TA}{pos:Pos}
theorem jT:PA X [] za5:=fun _ _ _ _ H Q I h=>Calls.spliced_nil ⟨[],H,I,.nil,h⟩
theorem vz(ha:PE X e te)(hr:PA X es t)(hs:starEach (e::es) X.env=(false,eval e X.env)::starEach es X.env:=by rfl):PA X (e::es) (tCons te t):=by
 intro pos pins s σ H Q I h
 rw[hs]
 show wpAny _ _ (spliced ((false,eval e X.env)::backTo pos (starEach es X.env))) _ _ s
 refine Calls.spliced_cons (thn (ha pins s σ H _ I h) fun u s1 z_=>?_)
 refine byc fun zG=>?_
 obtain⟨x,H1,I1,r1,q1⟩:=z_
 refine zG ?_
 exact thn (hr pos pins s1 σ H1 _ I1 q1) fun us s2 z_=>by obtain⟨xs,H2,I2,r2,q2⟩:=z_;exact⟨x::xs,H2,I2,.cons r1 r2,q2⟩
noncomputable def tTup(t:TA):TE:=fun σ H Q=>t σ H fun xs H1=>xs.length≤sizeLine∧∀p,H1 p=none→Q (.ref p) (upd H1 p (.tup xs))
noncomputable def tLst(t:TA):TE:=fun σ H Q=>t σ H fun xs H1=>xs.length≤sizeLine∧∀p,H1 p=none→Q (.ref p) (upd H1 p (.lst xs))
theorem zc2{x1}(h:PA X es t):PE X (.Tuple es x1 pos) (tTup t):=by
 intro pins s σ H Q I hq
 refine wpAny_Tuple_spliced (thn (h pos pins s σ H _ I hq) fun us s1 ⟨xs,H1,I1,r,z,q⟩=>⟨by rw[← r.length];exact z,?_⟩)
 have hf:H1 s1.heap.objs.size=none:=I1.hok.fresh (le_refl _)
 refine⟨.ref s1.heap.objs.size,upd H1 s1.heap.objs.size (.tup xs),I1.laid (t':=s1.toks) (fun b u e=>get?_push_of_some _ e) (le_refl _) ?_,rfl,q _ hf⟩
 exact⟨z,us,r,⟨_,Heap.get?_push_size _ rfl,rfl,_,rfl⟩⟩
theorem Gz(h:PA X es t):PE X (.List es pos) (tLst t):=by
 intro pins s σ H Q I hq
 refine wpAny_List_spliced (thn (h pos pins s σ H _ I hq) fun us s1 ⟨xs,H1,I1,r,z,q⟩=>⟨by rw[← r.length];exact z,?_⟩)
 have hf:H1 s1.heap.objs.size=none:=I1.hok.fresh (le_refl _)
 refine⟨.ref s1.heap.objs.size,upd H1 s1.heap.objs.size (.lst xs),I1.laid (t':=s1.toks) (fun b u e=>get?_push_of_some _ e) (le_refl _) ?_,rfl,q _ hf⟩
 exact⟨z,us,0,r,Heap.get?_push_size _ rfl⟩
end
noncomputable abbrev Sp:=List V→Hp→VK→XK→Prop
noncomputable abbrev CXT:=List Env→Hp→Shared→XK→Value→Shared→Prop
structure Env0(P:Program)(w:World)(K:Frag)(mg:Str→Option Value)(base:Heap)(A:Around)(outer:List Env)(s:Shared)(H:Hp):Prop where
 frames:A.frames=some outer
 mod:Mod K mg base
 bs:∀b o,base.get? b=some o→s.heap.get? b=some o∧H b=none
 bsz:base.objs.size≤s.heap.objs.size
 funs:s.heap.FunFrames base outer
 frf:∀b∈frs outer,H b=none
 hok:HOk P w H s.heap
 bare:AllBare s.gens
noncomputable def CE(outer:List Env)(P:Program)(w:World)(H:Hp)(s:Shared)(Q:VK)(u:Value)(s':Shared):Prop:=
 ∃v H',s'.os=s.os∧AllBare s'.gens∧Un (frs outer) [] H H' s.heap s'.heap∧HOk P w H' s'.heap∧RelV v u∧Q v H'
noncomputable def CR(CX:CXT)(outer:List Env)(P:Program)(w:World)(H:Hp)(s:Shared)(Q:VK)(E:XK)(r:Result)(s':Shared):Prop:=
 match r with
 | .ok (.ret u)=>CE outer P w H s Q u s'
 |.ok _=>False
 |.error e=>CX outer H s E e s'
structure FnOk(P:Program)(w:World)(K:Frag)(mg:Str→Option Value)(base:Heap)(CX:CXT)(k:Nat)(f:Addr)(fd:FuncData)(ps:List Str)(sp:Sp):Prop where
 len:∀vs H Q E,sp vs H Q E→vs.length=ps.length
 run:∀(A:Around) (outer:List Env) (s:Shared) (H:Hp) (args:Args) (us:List Value) (vs:List V) (Q:VK) (E:XK),Room k A→Env0 P w K mg base A outer s H→BindsTo s fd args (ps.zip us)→Vals vs us→sp vs H Q E →
  codeAny (model P w) A (.call (.ref f) args) (CR CX outer P w H s Q E) s
theorem FnOk.imp{P:Program}{w:World}{K:Frag}{mg:Str→Option Value}{base:Heap}{CX:CXT}{k:Nat}{f:Addr}{fd:FuncData}{ps:List Str}{sp sp':Sp}(F:FnOk P w K mg base CX k f fd ps sp)
  (h:∀vs H Q E,sp' vs H Q E→sp vs H Q E):FnOk P w K mg base CX k f fd ps sp':=
 ⟨fun vs H Q E q=>F.len vs H Q E (h _ _ _ _ q),fun A outer s H args us vs Q E hr he hb hv hs=>F.run A outer s H args us vs Q E hr he hb hv (h _ _ _ _ hs)⟩
theorem Env0.make{P:Program}{w:World}{K:Frag}{mg:Str→Option Value}{base:Heap}{A:Around}{outer:List Env}{s:Shared}{H:Hp}(e:Env0 P w K mg base A outer s H)(C:Addr)(us:List Value)(kw:List (Str×Value)) :
  Env0 P w K mg base (A.under (.builtin "type.__call__" ⟨.ref C::us,kw⟩)) outer s H:=⟨by first|exact e.frames | (simpa[Around.under,Code.envs,Code.isFrame,pushEnvs] using e.frames),e.mod,e.bs,e.bsz,e.funs,e.frf,e.hok,e.bare⟩
section
variable{X:Cx}{pins:List (Addr×Obj)}{σ:St}{H:Hp}{s s':Shared}
theorem Inv.env0(I:Inv X pins σ H s):Env0 X.prog X.w X.K X.mg X.base X.A X.stack s H:=
 ⟨I.ok.frames,I.ok.mod,I.bs,le_trans I.ok.bsz I.sz,I.stack,I.stkFree,I.hok,I.bare⟩
theorem Inv.after{Q:VK}{u:Value}(I:Inv X pins σ H s)(h:CE X.stack X.prog X.w H s Q u s'):EP X pins σ Q u s':=by
 refine byc fun zG=>?_
 obtain⟨v,H',os,bare,un,hok,r,q⟩:=h
 obtain⟨hh,g,d,t,os'⟩:=s'
 refine zG ?_
 obtain rfl:os'=s.os:=os
 exact⟨v,H',I.call (h':=hh) (g':=g) (d':=d) (t':=t) (ch:=[]) un hok bare (fun b z=>absurd z (by simp)),r,q⟩
end
noncomputable def tCall(sp:Sp)(dvs:List V)(E:XK)(t:TA):TE:=fun σ H Q=>t σ H fun vs H1=>sp (vs++dvs) H1 Q E
noncomputable def Jm(C:Addr)(m:Str)(sp:Sp)(dvs:List V)(E:XK)(ta:TE)(t:TA):TE:=fun σ H Q=>ta σ H fun x H1=>∃a dx fs,x=.ref a∧H1 a=some (.ins C dx fs)∧fs.lookup m=none ∧
 t σ H1 fun vs H2=>sp (x::(vs++dvs)) H2 Q E
noncomputable def LS(C:Addr)(sp:Sp)(dvs:List V)(E:XK)(t:TA):TE:=fun σ H Q=>t σ H fun vs H1=>∀x dx,H1 x=none→H1 dx=none→dx≠x →
 sp (.ref x::(vs++dvs)) (upd (upd H1 dx (.own x)) x (.ins C dx [])) (fun v H2=>v=.non∧Q (.ref x) H2) E
noncomputable def Binds(K:Frag)(fd:FuncData)(ps:List Str)(ds:List Value):Prop:=
 ∀(s:Shared) (us:List Value),K.In s.heap→(us++ds).length=ps.length→BindsTo s fd ⟨us,[]⟩ (ps.zip (us++ds))
theorem Binds.all{K:Frag}{fd:FuncData}{ps:List Str}(h:∀us:List Value,us.length=ps.length→bindArgs fd ⟨us,[]⟩=pure (ps.zip us)):Binds K fd ps []:=fun s us _ hl=>by
 rw[append_nil] at hl ⊢
 exact .of_eq (h us hl)
noncomputable def j5(CX:CXT)(X:Cx)(E:XK):Prop:=∀(pins:List (Addr×Obj)) (σ:St) (H:Hp) (s:Shared) (e:Value) (s':Shared),Inv X pins σ H s→CX X.stack H s E e s'→X.xe e s'
section
variable{X:Cx}{CX:CXT}{k:Nat}{f C:Addr}{fd:FuncData}{ps:List Str}{sp:Sp}{dvs:List V}{ds:List Value}{E:XK}{x m:Str}{p pos apos:Pos}{e o:Expr}{es:List Expr}{ta:TE}{t:TA}
theorem UJ{pins:List (Addr×Obj)}{σ:St}{H:Hp}{s:Shared}{Q:VK}{us:List Value}{vs:List V}(F:FnOk X.prog X.w X.K X.mg X.base CX k f fd ps sp)(hr:Room k X.A)(hb:Binds X.K fd ps ds)(hd:Vals dvs ds)(hx:j5 CX X E)
  (I:Inv X pins σ H s) (r:Vals vs us) (h:sp (vs++dvs) H Q E):wpAny (model X.prog X.w) X.A (call (.ref f) us) (EP X pins σ Q) X.xe s:=by
 have r2:Vals (vs++dvs) (us++ds):=r.append hd
 have hl:(us++ds).length=ps.length:=by rw[← r2.length];exact F.len _ _ _ _ h
 refine wpAny_call (codeAny_mono (F.run X.A X.stack s H ⟨us,[]⟩ (us++ds) (vs++dvs) Q E hr I.env0 (hb s us I.kIn hl) r2 h) fun r s' hq=>?_)
 cases r with
 |error e=>exact hx pins σ H s e s' I hq
 |ok fl=>
  cases fl with
  |ret u=>exact I.after hq
  |next=>exact False.elim hq
  |brk=>exact False.elim hq
  |cont=>exact False.elim hq
theorem W0(F:FnOk X.prog X.w X.K X.mg X.base CX k f fd ps sp)(hr:Room k X.A)(hg:Gl X x)(hm:X.mg x=some (.ref f))(hk:keepIn X.K (.ref f)=true)(hb:Binds X.K fd ps ds)(hd:Vals dvs ds)(hx:j5 CX X E)
  (ha:PA X (e::es) t) (hdb:(x==("__debug__" : Str))=false:=by decide) (he:starEach (e::es) X.env=(false,eval e X.env)::starEach es X.env:=by rfl) (hpl:(backTo pos (starEach es X.env)).any (·.1)=false:=by rfl) :
  PE X (.Call (.Name x p) (e::es) [] pos) (tCall sp dvs E t):=by
 intro pins s σ H Q I h
 refine wpAny_Call_Name_kw (Vk I hg hm ?_ hdb)
 refine callWith_K (h₀:=X.base) I.ok.mod.kin hk (thn (ha pos pins s σ H _ I h) fun us s1 ⟨vs,H1,I1,r,q⟩=>⟨I1.kIn,?_⟩) he hpl
 exact UJ F hr hb hd hx I1 r q
theorem TR{pl:Sem Bool}(he:PE X o ta)(c:Cls X.K C)(hm:uM X.K C m f)(F:FnOk X.prog X.w X.K X.mg X.base CX k f fd ps sp)(hr:Room k X.A)(hb:Binds X.K fd ps ds)(hd:Vals dvs ds)(hx:j5 CX X E)(ha:PA X (e::es) t)
  (hst:starEach (e::es) X.env=(false,eval e X.env)::starEach es X.env:=by rfl) (hpl:(backTo pos (starEach es X.env)).any (·.1)=false:=by rfl)
  (ht:eval (.Call (.Attribute o m apos) (e::es) [] pos) X.env=(do
   let ov ← eval o X.env
   standAt apos.atName
   let (f,first) ← holding [ov] (getMethod ov m pl)
   callWith pos f first (backTo pos (starEach (e::es) X.env)) (backToKw pos (keywordEach [] X.env))):=by rfl) :
  PE X (.Call (.Attribute o m apos) (e::es) [] pos) (Jm C m sp dvs E ta t):=by
 intro pins s σ H Q I h
 refine PySem.W.methodCall_KW (pl:=pl) (thn (he pins s σ H _ I h) fun u s1 z_=>?_) ht
 refine byc fun zG=>?_
 obtain⟨x,H1,I1,rx,a,dx,fs,ex,ea,l,q⟩:=z_
 refine zG ?_
 subst ex
 obtain rfl:u=Value.ref a:=rx
 refine Xz I1 ea c hm l ?_
 refine callWith_K (first:=[.ref a]) (h₀:=X.base) I.ok.mod.kin hm.kp (thn (ha pos pins s1 σ H1 _ I1 q) fun us s2 ⟨vs,H2,I2,r,q2⟩=>⟨I2.kIn,?_⟩) hst hpl
 exact UJ (us:=.ref a::us) (vs:=.ref a::vs) F hr hb hd hx I2 (.cons rfl r) q2
theorem Y2{pl:Sem Bool}(he:PE X o ta)(c:Cls X.K C)(hm:uM X.K C m f)(F:FnOk X.prog X.w X.K X.mg X.base CX k f fd ps sp)(hr:Room k X.A)(hb:Binds X.K fd ps ds)(hd:Vals dvs ds)(hx:j5 CX X E)
  (ht:eval (.Call (.Attribute o m apos) [] [] pos) X.env=(do
   let ov ← eval o X.env
   standAt apos.atName
   let (f,first) ← holding [ov] (getMethod ov m pl)
   callWith pos f first (backTo pos (starEach [] X.env)) (backToKw pos (keywordEach [] X.env))):=by rfl) :
  PE X (.Call (.Attribute o m apos) [] [] pos) (Jm C m sp dvs E ta za5):=by
 intro pins s σ H Q I h
 refine PySem.W.methodCall_KW (pl:=pl) (thn (he pins s σ H _ I h) fun u s1 z_=>?_) ht
 refine byc fun zG=>?_
 obtain⟨x,H1,I1,rx,a,dx,fs,ex,ea,l,q⟩:=z_
 refine zG ?_
 subst ex
 obtain rfl:u=Value.ref a:=rx
 refine Xz I1 ea c hm l ?_
 exact PySem.W.callWith_K0 (first:=[.ref a]) I1.kIn hm.kp (UJ (us:=[.ref a]) (vs:=[.ref a]) F hr hb hd hx I1 (.cons rfl .nil) q)
structure Mk(K:Frag)(C f:Addr):Prop where
 makes:makesIn K C=true
 init:findIn K (.ref C) "__init__" = some (some (.ref f))
 fn:isFn K (.ref f)=true
 kp:keepIn K (.ref C)=true
theorem Ge{pins:List (Addr×Obj)}{σ:St}{H:Hp}{s:Shared}{Q:VK}{us:List Value}{vs:List V}(M:Mk X.K C f)(F:FnOk X.prog X.w X.K X.mg X.base CX k f fd ps sp)(hr:Room (k+1) X.A)(hb:Binds X.K fd ps ds)(hd:Vals dvs ds)
  (hx:j5 CX X E) (I:Inv X pins σ H s) (r:Vals vs us)
  (h:∀x dx,H x=none→H dx=none→dx≠x→sp (.ref x::(vs++dvs)) (upd (upd H dx (.own x)) x (.ins C dx [])) (fun v H2=>v=.non∧Q (.ref x) H2) E) :
  wpAny (model X.prog X.w) X.A (call (.ref C) us) (EP X pins σ Q) X.xe s:=by
 have hq:=h (s.heap.objs.size+1) s.heap.objs.size (I.hok.fresh (Nat.le_succ _)) (I.hok.fresh (le_refl _)) (ne_of_lt (Nat.lt_succ_self _))
 have I2:=Inv.made (C:=C) I
 have r2:Vals (V.ref (s.heap.objs.size+1)::(vs++dvs)) (Value.ref (s.heap.objs.size+1)::(us++ds)):=.cons rfl (r.append hd)
 have hl:(Value.ref (s.heap.objs.size+1)::us++ds).length=ps.length:=by
  have e:=r2.length
  rw[F.len _ _ _ _ hq] at e
  exact e.symm
 refine wpAny_call (Mf (f:=f) I.kIn M.makes M.init (beq_iff_eq.mp M.fn) (codeAny_mono (F.run _ X.stack _ _ ⟨Value.ref (s.heap.objs.size+1)::us,[]⟩ (Value.ref (s.heap.objs.size+1)::(us++ds)) _ _ E (hr.make C us [])
  (I2.env0.make C us []) (hb _ (Value.ref (s.heap.objs.size+1)::us) I2.kIn hl) r2 hq) fun r s' hq'=>?_))
 cases r with
 |error e=>exact hx pins σ _ _ e s' I2 hq'
 |ok fl=>
  cases fl with
  |ret u=>
   refine byc fun zG=>?_
   obtain⟨v,H',I3,rv,ev,q3⟩:=I2.after hq'
   refine zG ?_
   subst ev
   exact⟨rv,⟨V.ref (s.heap.objs.size+1),H',I3,rfl,q3⟩⟩
  |next=>exact False.elim hq'
  |brk=>exact False.elim hq'
  |cont=>exact False.elim hq'
theorem TU(M:Mk X.K C f)(F:FnOk X.prog X.w X.K X.mg X.base CX k f fd ps sp)(hr:Room (k+1) X.A)(hg:Gl X x)(hm:X.mg x=some (.ref C))(hb:Binds X.K fd ps ds)(hd:Vals dvs ds)(hx:j5 CX X E)
  (ha:PA X (e::es) t) (hdb:(x==("__debug__" : Str))=false:=by decide) (he:starEach (e::es) X.env=(false,eval e X.env)::starEach es X.env:=by rfl) (hpl:(backTo pos (starEach es X.env)).any (·.1)=false:=by rfl) :
  PE X (.Call (.Name x p) (e::es) [] pos) (LS C sp dvs E t):=by
 intro pins s σ H Q I h
 refine wpAny_Call_Name_kw (Vk I hg hm ?_ hdb)
 refine callWith_K (h₀:=X.base) I.ok.mod.kin M.kp (thn (ha pos pins s σ H _ I h) fun us s1 ⟨vs,H1,I1,r,q⟩=>⟨I1.kIn,?_⟩) he hpl
 exact Ge M F hr hb hd hx I1 r q
end
section
variable{X:Cx}{CX:CXT}{k:Nat}{f C:Addr}{fd:FuncData}{ps ks:List Str}{sp:Sp}{E:XK}{x m:Str}{p pos apos kpos:Pos}{e o:Expr}{es:List Expr}{kws:List Keyword}{te ta:TE}{t tk:TA}{nm:Option Str}
variable{g:List Value→List Value→List Value}{gV:List V→List V→List V}
end
structure zD(N P:List Str)(sc:Scope):Prop where
 kind:sc.kind=.function
 co:sc.isCoroutine=false
 gen:sc.isGenerator=false
 nd:N.Nodup
 pre:N.take P.length=P
 par:∀x∈P,sc.names.lookup x=some .local∨sc.names.lookup x=some .cell
 nofree:∀y∈sc.names,y.2≠.free
theorem WG{kindOf:Str→Option NameKind}{x:Str}:∀{binds:List (Str×Value)} {m:Str→Option Value},(∀v,(x,v)∉binds)→bindL kindOf binds m x=m x
 |[],_,_=>rfl
 | (n,v)::r,m,h=>by
  unfold bindL
  rw[WG fun w hw=>h w (mem_cons_of_mem _ hw)]
  split
  ·have:x≠n:=by rintro rfl;exact h v mem_cons_self
   simp[this]
  ·rfl
theorem WI{kindOf:Str→Option NameKind}{x:Str}:∀{binds:List (Str×Value)} {m:Str→Option Value},(∀v,(x,v)∉binds)→bindC kindOf binds m x=m x
 |[],_,_=>rfl
 | (n,v)::r,m,h=>by
  unfold bindC
  rw[WI fun w hw=>h w (mem_cons_of_mem _ hw)]
  split
  ·rfl
  ·have:x≠n:=by rintro rfl;exact h v mem_cons_self
   simp[this]
theorem WH{kindOf:Str→Option NameKind}{x:Str}{v:Value}:∀{P:List Str} {vs:List Value} {i:Nat} {m:Str→Option Value},P.Nodup→P[i]?=some x→vs[i]?=some v→kindOf x=some .local →
  bindL kindOf (P.zip vs) m x=some v
 |[],_,_,_,_,h,_,_=>by simp at h
 |_::_,[],_,_,_,_,h,_=>by simp at h
 |p::P,w::vs,0,m,nd,h1,h2,hk=>by
  simp at h1 h2;subst h1;subst h2
  show bindL kindOf ((p,w)::P.zip vs) m p=_
  unfold bindL
  rw[WG fun v hv=>(nodup_cons.mp nd).1 (List.of_mem_zip hv).1,if_pos hk]
  simp
 |p::P,w::vs,i+1,m,nd,h1,h2,hk=>by
  show bindL kindOf ((p,w)::P.zip vs) m x=_
  unfold bindL
  exact WH (i:=i) (nodup_cons.mp nd).2 (by simpa using h1) (by simpa using h2) hk
theorem WJ{kindOf:Str→Option NameKind}{x:Str}{v:Value}:∀{P:List Str} {vs:List Value} {i:Nat} {m:Str→Option Value},P.Nodup→P[i]?=some x→vs[i]?=some v→kindOf x≠some .local →
  bindC kindOf (P.zip vs) m x=some v
 |[],_,_,_,_,h,_,_=>by simp at h
 |_::_,[],_,_,_,_,h,_=>by simp at h
 |p::P,w::vs,0,m,nd,h1,h2,hk=>by
  simp at h1 h2;subst h1;subst h2
  show bindC kindOf ((p,w)::P.zip vs) m p=_
  unfold bindC
  rw[WI fun v hv=>(nodup_cons.mp nd).1 (List.of_mem_zip hv).1,if_neg hk]
  simp
 |p::P,w::vs,i+1,m,nd,h1,h2,hk=>by
  show bindC kindOf ((p,w)::P.zip vs) m x=_
  unfold bindC
  exact WJ (i:=i) (nodup_cons.mp nd).2 (by simpa using h1) (by simpa using h2) hk
noncomputable def start(N:List Str)(vs:List V):St:=vs.map some++List.replicate (N.length-vs.length) none
noncomputable def uS(CX:CXT)(P:Program)(w:World)(K:Frag)(mg:Str→Option Value)(base:Heap)(N:List Str)(qual:Str)(scope:Scope)(f:Addr)(cd:Value)(A:Around)(outer:List Env)(s:Shared)(H:Hp)(E:XK):Cx where
 prog:=P
 w:=w
 K:=K
 mg:=mg
 base:=base
 A:=A.deeper (envOfC qual scope s.heap.objs.size f cd)
 N:=N
 s₀:=s
 H₀:=H
 env:=envOfC qual scope s.heap.objs.size f cd
 outer:=outer
 stack:=envOfC qual scope s.heap.objs.size f cd::outer
 ex:=[]
 calm:=true
 fn:=fun _=>true
 pn:=[]
 xe:=fun e s'=>wpAny (model P w) (A.deeper (envOfC qual scope s.heap.objs.size f cd)) (leaving (envOfC qual scope s.heap.objs.size f cd) e) (fun _ s''=>CX outer H s E e s'') (fun e' s''=>CX outer H s E e' s'') s'
theorem Uu{sc:Scope}{n:Nat}{x:Str}(h:sc.names.lookup x=some .cell):∃c,(cellsFrom n sc.names []).lookup x=some c:=by
 have q:=PySem.W.cellsFrom_some sc.names n [] (.inl h)
 exact Option.isSome_iff_exists.mp q
theorem QG{CX:CXT}{P:Program}{w:World}{K:Frag}{mg:Str→Option Value}{base:Heap}{N ps:List Str}{qual:Str}{scope:Scope}{f:Addr}{cd:Value}{A:Around}{outer:List Env}{s s1:Shared}{H:Hp}{E:XK}{us:List Value}{vs:List V}
  (S:zD N ps scope) (hd:A.handled=none) (e0:Env0 P w K mg base A outer s H) (hl:vs.length=ps.length) (r:Vals vs us)
  (x:InCallC s s.heap.objs.size (bindL (envOfC qual scope s.heap.objs.size f cd).kindOf (ps.zip us) fun _=>none) (cellsFrom (s.heap.objs.size+1) scope.names []) (bindC (envOfC qual scope s.heap.objs.size f cd).kindOf (ps.zip us) fun _=>none) s1) :
  Inv (uS CX P w K mg base N qual scope f cd A outer s H E) [] (start N vs) H s1:=by
 have hpl:ps.length≤N.length:=by have:=congrArg List.length S.pre;rw[length_take] at this;lia
 refine byc fun zG=>?_
 obtain⟨h1,tk,rfl,hk⟩:=x.done
 refine zG ?_
 have noA:∀b:Addr,b∉(uS CX P w K mg base N qual scope f cd A outer s H E).ex:=fun b z=>absurd (show b∈([]:List Addr) from z) (by simp)
 refine⟨⟨e0.mod,S.kind,rfl,rfl,le_refl _,fun y z c h1 h2=>?_,fun y hy=>?_,fun y c _ h=>?_,fun _=>hd,Around.frames_deeper e0.frames,.inr ⟨rfl,rfl⟩,fun b z=>absurd z (noA b),e0.bs,e0.bsz,fun b _ _=>noA b,fun b z=>absurd z (noA b),e0.funs,e0.frf⟩,
  rfl,e0.bare,Un.kept hk,⟨_,x.toInCall.ns,fun i y v h1 h2 h3=>?_⟩,fun y c h=>⟨_,x.cell y c h⟩,e0.hok.fresh (le_refl _),fun y c h=>?_,fun p hp=>absurd (show p∈([]:List (Addr×Obj)) from hp) (by simp),e0.hok.kept hk,?_⟩
 ·exact name_of_addr x.apart (PySem.mem_of_lookup h1) (PySem.mem_of_lookup h2)
 ·have hy:scope.names.lookup y=some .cell∨scope.names.lookup y=some .free:=hy
  rcases hy with hy|hy
  ·exact Uu hy
  ·exact absurd rfl (S.nofree _ (PySem.mem_of_lookup hy))
 ·exact le_of_lt (x.above y c (PySem.mem_of_lookup h))
 ·have hi:i<vs.length:=by
   unfold start at h2
   by_cases hi:i<vs.length
   ·exact hi
   ·rw[getElem?_append_right (by simpa using hi)] at h2
    rw[getElem?_replicate] at h2
    split at h2 <;> cases h2
  have ha:vs[i]?=some v:=by
   unfold start at h2
   rw[getElem?_append_left (by simpa using hi),getElem?_map] at h2
   cases e:vs[i]? with
   |none=>rw[e] at h2;cases h2
   |some a=>rw[e] at h2;cases h2;rfl
  obtain⟨u,hu,rv⟩:=r.get ha
  have hp:ps[i]?=some y:=by
   rw[← S.pre,List.getElem?_take_of_lt (by lia)];exact h1
  have ndP:ps.Nodup:=by rw[← S.pre];exact S.nd.sublist (List.take_sublist _ _)
  refine⟨u,rv,?_⟩
  rcases S.par y (List.mem_of_getElem? hp) with k|k
  ·exact .inl ⟨k,WH ndP hp hu k⟩
  ·obtain⟨c,e⟩:=Uu (n:=s.heap.objs.size+1) k
   refine .inr ⟨.inl k,c,e,?_⟩
   have q:=x.cell y c e
   rw[WJ ndP hp hu (by show scope.names.lookup y≠_;rw[k];decide)] at q
   exact q
 ·exact e0.hok.fresh (le_of_lt (x.above y c (PySem.mem_of_lookup h)))
 ·unfold start
  show _=N.length
  rw[length_append,length_map,List.length_replicate]
  lia
theorem L6{CX:CXT}{P:Program}{w:World}{K:Frag}{mg:Str→Option Value}{base:Heap}{k:Nat}{f:Addr}{name qual:Str}{params:Arguments}{body:List Stmt}{scope:Scope}{dV kV doc pm cdv ct oc:Value}{an od:Option Addr}
  {osl:Array (Option Value)} {N ps:List Str} {sp:Sp} (lk:K.lookup f=some ⟨oc,od,.func (fnOf name qual params body scope dV kV doc pm an cdv ct),osl⟩) (hcd:codeIn K cdv qual=true) (S:zD N ps scope)
  (len:∀vs H Q E,sp vs H Q E→vs.length=ps.length)
  (hbody:∀(A:Around) (outer:List Env) (s:Shared) (H:Hp) (vs:List V) (Q:VK) (E:XK),Room k (A.deeper (envOfC qual scope s.heap.objs.size f cdv))→sp vs H Q E →
   ∃t,PSs (uS CX P w K mg base N qual scope f cdv A outer s H E) body t∧t { nx:=fun _ H'=>Q .non H',rt:=Q } (start N vs) H) :
  FnOk P w K mg base CX (k+1) f (fnOf name qual params body scope dV kV doc pm an cdv ct) ps sp:=by
 refine⟨len,fun A outer s H args us vs Q E hr e0 hb r hsp=>?_⟩
 have hl:=len _ _ _ _ hsp
 have KX:K.In s.heap:=e0.mod.kin.keeps fun b o e=>(e0.bs b o e).1
 have lim:s.heap.NoLimit:=e0.mod.nolimit.keeps fun b o e=>(e0.bs b o e).1
 have hkind:∀y∈ps.zip us,scope.names.lookup y.1=some .local∨(scope.names.lookup y.1=some .cell∧((cellsFrom (s.heap.objs.size+1) scope.names []).lookup y.1).isSome=true):=fun ⟨n,v⟩ hy=>by
  rcases S.par n (List.of_mem_zip hy).1 with q|q
  ·exact .inl q
  ·exact .inr ⟨q,PySem.W.cellsFrom_some _ _ _ (.inl q)⟩
 refine codeAny_call_function hr.depth (KX _ _ lk) rfl S.co S.gen rfl (PySem.W.codeRec_of KX hcd) (hb _ _ _ _ ?_)
 refine wpAny_newFunctionEnv_cells S.kind hkind fun env he s1 x=>?_
 subst he
 refine⟨lim.keeps x.toInCall.keep,codeAny_func ?_⟩
 obtain⟨t,ht,hq⟩:=hbody A outer s H vs Q E (hr.deeper _) hsp
 have I:Inv (uS CX P w K mg base N qual scope f cdv A outer s H E) [] (start N vs) H s1:=QG S hr.hd e0 hl r x
 refine wpAny_mono (ht [] s1 (start N vs) H _ I hq) (fun fl s' hs=>?_) fun e s' hs=>hs
 have fin:∀{σ':St} {H':Hp} {v:V} {u:Value},Inv (uS CX P w K mg base N qual scope f cdv A outer s H E) [] σ' H' s'→RelV v u→Q v H'→CE outer P w H s Q u s':=
  fun {σ' H' v u} J rv q=>⟨v,H',J.os,J.bare,J.base,J.hok,rv,q⟩
 cases fl with
 |ret u=>
  refine byc fun zG=>?_
  obtain⟨v,σ',H',J,rv,q⟩:=hs
  refine zG ?_
  exact fin J rv q
 |next=>
  refine byc fun zG=>?_
  obtain⟨σ',H',J,q⟩:=hs
  refine zG ?_
  exact fin (v:=V.non) (u:=Value.none) J rfl q
 |brk=>
  refine byc fun zG=>?_
  obtain⟨_,_,_,q⟩:=hs
  refine zG ?_
  exact False.elim q
 |cont=>
  refine byc fun zG=>?_
  obtain⟨_,_,_,q⟩:=hs
  refine zG ?_
  exact False.elim q
section
variable{X:Cx}{x:Str}{p pos:Pos}{e:Expr}{es:List Expr}{t:TA}{id T:String}{r:List V→Hp→VK→Prop}
noncomputable def tCB(r:List V→Hp→VK→Prop)(t:TA):TE:=fun σ H Q=>t σ H fun vs H1=>r vs H1 Q
theorem pe_callB(hc:CallR X (.builtin id) r)(hg:Gl X x)(hm:X.mg x=none)(hv:bootBuiltins x=some (.builtin id))(ha:PA X (e::es) t)(hn:x ≠ "__name__" := by decide)(hdb:(x==("__debug__" : Str))=false:=by decide)
  (he:starEach (e::es) X.env=(false,eval e X.env)::starEach es X.env:=by rfl) (hpl:(backTo pos (starEach es X.env)).any (·.1)=false:=by rfl):PE X (.Call (.Name x p) (e::es) [] pos) (tCB r t):=by
 intro pins s σ H Q I h
 refine wpAny_Call_Name_kw (u9 I hg hm hv ?_ hn hdb)
 exact PyProof.Rows.callWith_builtin1 (thn (ha pos pins s σ H _ I h) fun us s1 ⟨vs,H1,I1,r1,q1⟩=>hc pins s1 σ H1 vs us Q I1 r1 q1) he hpl
theorem pe_callTy(hc:CallR X (.type T) r)(hg:Gl X x)(hm:X.mg x=none)(hv:bootBuiltins x=some (.type T))(ha:PA X (e::es) t)(hn:x ≠ "__name__" := by decide)(hdb:(x==("__debug__" : Str))=false:=by decide)
  (he:starEach (e::es) X.env=(false,eval e X.env)::starEach es X.env:=by rfl) (hpl:(backTo pos (starEach es X.env)).any (·.1)=false:=by rfl):PE X (.Call (.Name x p) (e::es) [] pos) (tCB r t):=by
 intro pins s σ H Q I h
 refine wpAny_Call_Name_kw (u9 I hg hm hv ?_ hn hdb)
 exact PyProof.Rows.callWith_type1 (thn (ha pos pins s σ H _ I h) fun us s1 ⟨vs,H1,I1,r1,q1⟩=>hc pins s1 σ H1 vs us Q I1 r1 q1) he hpl
end
end L2
namespace HT
open PySem PyProof.Rows
section
open PySem.SeqAt
open PySem.AutoSeq1 (wpAny_loadPart')
open PySem.MeetsSeq PySem.MeetsSeq2 PySem.MeetsSeq3
end
section
variable{prog:Program}{w:World}{A:Around}{E:Value→Shared→Prop}{s:Shared}
noncomputable def sIx(n d:Nat):Option Int→Nat
 |none=>d
 |some v=>if v<0 then (v+(n:Int)).toNat else min v.toNat n
end
end HT
namespace L2
open PySem PySem.Spec PyProof.Rows
noncomputable abbrev TO:=St→Hp→(Option Int→Hp→Prop)→Prop
noncomputable def PO(X:Cx)(e:Option Expr)(t:TO):Prop:=
 ∀(pins:List (Addr×Obj)) (s:Shared) (σ:St) (H:Hp) (Q:Option Int→Hp→Prop),Inv X pins σ H s→t σ H Q →
  wpAny (model X.prog X.w) X.A (evalPart e X.env) (fun u s'=>∃o H',Inv X pins σ H' s'∧IsPart u o∧Q o H') X.xe s
noncomputable def Te:TO:=fun _ H Q=>Q none H
noncomputable def tPart(t:TE):TO:=fun σ H Q=>t σ H fun x H1=>∃i,x=.int i∧Q (some i) H1
section
variable{X:Cx}{e:Expr}{te:TE}{lo hi:Option Expr}{tl th:TO}{pos p2:Pos}
theorem TM:PO X none Te:=by
 intro pins s σ H Q I h
 rw[evalPart_none]
 exact wpAny_pure ⟨none,H,I,.none,h⟩
theorem TL(h:PE X e te):PO X (some e) (tPart te):=by
 intro pins s σ H Q I hw
 rw[evalPart_some]
 refine thn (h pins s σ H _ I hw) fun u s1 z_=>?_
 refine byc fun zG=>?_
 obtain⟨x,H1,I1,r1,q1⟩:=z_
 obtain⟨i,rfl,q⟩:=q1
 obtain⟨t,rfl⟩:=r1
 refine zG ?_
 exact⟨some i,H1,I1,.int i t,q⟩
noncomputable def SlR(X:Cx)(r:V→Option Int→Option Int→Hp→VK→Prop):Prop:=
 ∀(pins:List (Addr×Obj)) (s:Shared) (σ:St) (H:Hp) (x:V) (v vl vu:Value) (lo hi:Option Int) (sl:Addr) (Q:VK),Inv X pins σ H s→RelV x v→s.heap.IsSliceOf sl vl vu .none→IsPart vl lo→IsPart vu hi→r x lo hi H Q →
  ∃T id,typeLookup (.type T) "__getitem__" = pure (some (.builtin id))∧s.TypeIs v T∧wpAny (model X.prog X.w) X.A (getItem v (.ref sl)) (EP X pins σ Q) X.xe s
theorem SlR.or{r r':V→Option Int→Option Int→Hp→VK→Prop}(h:SlR X r)(h':SlR X r'):SlR X (fun x lo hi H Q=>r x lo hi H Q∨r' x lo hi H Q):=by
 intro pins s σ H x v vl vu lo hi sl Q I rx hs pl pu q
 rcases q with q|q
 ·exact h pins s σ H x v vl vu lo hi sl Q I rx hs pl pu q
 ·exact h' pins s σ H x v vl vu lo hi sl Q I rx hs pl pu q
noncomputable def tSl(r:V→Option Int→Option Int→Hp→VK→Prop)(te:TE)(tl th:TO):TE:=fun σ H Q=>te σ H fun x H1=>tl σ H1 fun l H2=>th σ H2 fun u H3=>r x l u H3 Q
theorem Gy{r:V→Option Int→Option Int→Hp→VK→Prop}(hr:SlR X r)(he:PE X e te)(hl:PO X lo tl)(hu:PO X hi th):PE X (.Subscript e (.Slice lo hi none p2) pos) (tSl r te tl th):=by
 intro pins s σ H Q I h
 refine Subscript_ (thn (he pins s σ H _ I h) fun v s1 z_=>?_)
 refine byc fun zG=>?_
 obtain⟨x,H1,I1,r1,q1⟩:=z_
 refine zG ?_
 refine wpAny_Slice (thn (hl pins s1 σ H1 _ I1 q1) fun vl s2 ⟨l,H2,I2,pl,q2⟩=>thn (hu pins s2 σ H2 _ I2 q2) fun vu s3 z_=>?_)
 refine byc fun zG=>?_
 obtain⟨u,H3,I3,pu,q3⟩:=z_
 refine zG ?_
 rw[evalPart_none]
 refine wpAny_pure ?_
 have I4:Inv X pins σ H3 { s3 with heap:=s3.heap.push { cls:=.type "slice", data:=.fields #[vl,vu,.none] } }:=I3.kept (t':=s3.toks) fun b ob q=>get?_push_of_some _ q
 refine byc fun zG=>?_
 obtain⟨T,id,hT,ht,hg⟩:=hr pins { s3 with heap:=s3.heap.push { cls:=.type "slice", data:=.fields #[vl,vu,.none] } } σ H3 x v vl vu l u s3.heap.objs.size Q I4 r1 (Heap.IsSliceOf.new ..) pl pu q3
 refine zG ?_
 show wpAny (model X.prog X.w) X.A (subscriptTail e (.Slice lo hi none p2) v (.ref s3.heap.objs.size)) (EP X pins σ Q) X.xe { s3 with heap:=s3.heap.push { cls:=.type "slice", data:=.fields #[vl,vu,.none] } }
 exact tail_any (ops:=[.ref s3.heap.objs.size,v]) ht hT hg (by with_unfolding_all rfl)
noncomputable def QM(xs:List V)(lo hi:Option Int):List V:=(xs.drop (HT.sIx xs.length 0 lo)).take (HT.sIx xs.length xs.length hi-HT.sIx xs.length 0 lo)
theorem Ut(xs:List V)(lo hi:Option Int):(QM xs lo hi).length≤xs.length:=by
 unfold QM
 rw[length_take,length_drop]
 lia
end
noncomputable def ixN(n:Nat)(i:Int):Option Nat:=if 0≤i then (if i<n then some i.toNat else none) else if -(n:Int)≤i then some (i+n).toNat else none
noncomputable def atI{α:Type}(xs:List α)(i:Int):Option α:=(ixN xs.length i).bind fun j=>xs[j]?
theorem JQ{n:Nat}{i:Int}{j:Nat}(h:ixN n i=some j):seqIndex? i n=some j∧j<n∧-(n:Int)≤i∧i<n:=by
 unfold ixN at h
 by_cases h0:0≤i
 ·rw[if_pos h0] at h
  by_cases h1:i<n
  ·rw[if_pos h1] at h
   have e:i.toNat=j:=Option.some.inj h
   exact⟨by rw[seqIndex_of h0 h1,e],by lia,by lia,h1⟩
  ·rw[if_neg h1] at h;cases h
 ·rw[if_neg h0] at h
  by_cases h1 : -(n:Int)≤i
  ·rw[if_pos h1] at h
   have e:(i+n).toNat=j:=Option.some.inj h
   exact⟨by rw[seqIndex_neg (by lia) h1,e],by lia,h1,by lia⟩
  ·rw[if_neg h1] at h;cases h
theorem Vy{α:Type}{xs:List α}{i:Int}{v:α}(h:atI xs i=some v):∃j,seqIndex? i xs.length=some j∧xs[j]?=some v∧j<xs.length∧-(xs.length:Int)≤i∧i<xs.length:=by
 unfold atI at h
 cases e:ixN xs.length i with
 |none=>rw[e] at h;cases h
 |some j=>
  rw[e] at h
  refine byc fun zG=>?_
  obtain⟨h1,h2,h3,h4⟩:=JQ e
  refine zG ?_
  exact⟨j,h1,h,h2,h3,h4⟩
theorem J4{α:Type}{xs:List α}{j:Nat}{v:α}(h:xs[j]?=some v):atI xs (j:Int)=some v:=by
 have hj:j<xs.length:=(List.getElem?_eq_some_iff.mp h).1
 have e:ixN xs.length (j:Int)=some j:=by
  unfold ixN
  rw[if_pos (by lia),if_pos (by lia)];simp
 unfold atI;rw[e];exact h
noncomputable def YM(b:Expr):Prop:=∀o i,subscripted b false o i=operate [o,i] (getItem o i)
noncomputable def IxR(X:Cx)(r:R2):Prop:=
 ∀(value slice:Expr) (pins:List (Addr×Obj)) (s:Shared) (σ:St) (H:Hp) (x y:V) (v u:Value) (Q:VK),Inv X pins σ H s→RelV x v→RelV y u→r x y H Q →
  subscripted slice false v u=operate [v,u] (getItem v u)→wpAny (model X.prog X.w) X.A (subscriptTail value slice v u) (EP X pins σ Q) X.xe s
noncomputable def MtR(X:Cx)(id:String)(r:V→List V→Hp→VK→Prop):Prop:=
 ∀(pins:List (Addr×Obj)) (s:Shared) (σ:St) (H:Hp) (x:V) (xs:List V) (v:Value) (us:List Value) (Q:VK),Inv X pins σ H s→RelV x v→Vals xs us→r x xs H Q →
  wpAny (model X.prog X.w) X.A (call (.builtin id) (v::us)) (EP X pins σ Q) X.xe s
section
variable{X:Cx}{a b:Expr}{ta tb:TE}{pos:Pos}
theorem IxR.or{r r':R2}(h:IxR X r)(h':IxR X r'):IxR X (fun x y H Q=>r x y H Q∨r' x y H Q):=by
 intro value slice pins s σ H x y v u Q I rx ry q hs
 rcases q with q|q
 ·exact h value slice pins s σ H x y v u Q I rx ry q hs
 ·exact h' value slice pins s σ H x y v u Q I rx ry q hs
theorem GA{r:R2}(hr:IxR X r)(ha:PE X a ta)(hb:PE X b tb)(hs:YM b):PE X (.Subscript a b pos) (tOp r ta tb):=by
 intro pins s σ H Q I h
 exact Subscript_ (zh4 ha hb I h fun v u s2 x y H2 I2 rx ry q=>hr a b pins s2 σ H2 x y v u Q I2 rx ry q (hs _ _))
noncomputable def rIxL(K:Frag):R2:=fun x y H Q=>∃p xs i v,x=.ref p∧y=.int i∧SqL K H p xs∧atI xs i=some v∧Q v H
noncomputable def rIxT(K:Frag):R2:=fun x y H Q=>∃p xs i v,x=.ref p∧y=.int i∧SqT K H p xs∧atI xs i=some v∧Q v H
noncomputable def rIxS:R2:=fun x y H Q=>∃z i c,x=.str z∧y=.int i∧z.length≤sizeLine∧atI z.cps.toList i=some c∧Q (.str ⟨#[c]⟩) H
theorem ix_list:IxR X (rIxL X.K):=by
 intro value slice pins s σ H x y v u Q I rx ry h hs
 refine byc fun zG=>?_
 obtain⟨p,xs,i,z,rfl,rfl,hq,he,q⟩:=h
 refine zG ?_
 cases rx
 refine byc fun zG=>?_
 obtain⟨t,rfl⟩:=ry
 obtain⟨its,r,pl,hz⟩:=I.list hq
 obtain⟨j,h1,h2,h3,h4,h5⟩:=Vy he
 obtain⟨w,ew,rw'⟩:=r.get h2
 refine zG ?_
 have hl:=r.length
 have hn:=jX
 have fin:EP X pins σ Q w s:=⟨z,H,I,rw',q⟩
 by_cases h0:0≤i
 ·have hj:i.toNat=j:=by
   rw[seqIndex_of h0 h5] at h1
   exact Option.some.inj h1
  exact item_listR pl.isList h0 (by lia) (by rw[hj];simpa using ew) fin hs
 ·have hj:(i+(its.toArray.size:Int)).toNat=j:=by
   rw[seqIndex_neg (by lia) h4] at h1
   rw[size_toArray,← hl]
   exact Option.some.inj h1
  exact subscriptTail_builtinR (x:=w) pl.isList.typeIs slot_list_getitem.lookup
   (wpAny_getItem_list_neg (Q:=fun r s'=>r=w∧EP X pins σ Q r s') pl.isList (by lia) (by rw[size_toArray] <;> lia) (by lia) (by rw[hj];simpa using ew) ⟨rfl,fin⟩) hs
theorem ix_tup:IxR X (rIxT X.K):=by
 intro value slice pins s σ H x y v u Q I rx ry h hs
 refine byc fun zG=>?_
 obtain⟨p,xs,i,z,rfl,rfl,hq,he,q⟩:=h
 refine zG ?_
 cases rx
 refine byc fun zG=>?_
 obtain⟨t,rfl⟩:=ry
 obtain⟨its,r,pl,hz⟩:=I.tuple hq
 obtain⟨j,h1,h2,h3,h4,h5⟩:=Vy he
 obtain⟨w,ew,rw'⟩:=r.get h2
 refine zG ?_
 have hl:=r.length
 have hn:=jX
 have fin:EP X pins σ Q w s:=⟨z,H,I,rw',q⟩
 exact subscriptTail_builtinR (x:=w) pl.typeIs slot_tuple_getitem.lookup
  (getItem_tuple (j:=j) (Q:=fun r s'=>r=w∧EP X pins σ Q r s') pl (by lia) (by lia) (by rw[size_toArray,← hl];exact h1) (by simpa using ew) ⟨rfl,fin⟩) hs
theorem zf5:IxR X rIxS:=by
 intro value slice pins s σ H x y v u Q I rx ry h hs
 refine byc fun zG=>?_
 obtain⟨z,i,c,rfl,rfl,hz,he,q⟩:=h
 obtain⟨t,rfl⟩:=rx
 obtain⟨t',rfl⟩:=ry
 obtain⟨j,h1,h2,h3,h4,h5⟩:=Vy he
 refine zG ?_
 have hl:z.cps.toList.length=z.length:=by simp[Str.length]
 rw[hl] at h1 h4 h5
 have hn:=jX
 exact tail_any (typeIs_str s z t) slot_str_getitem.lookup (getItem_str (c:=c) (by
  have e1:decide (i < -(2 ^ 63:Int))=false:=decide_eq_false (by lia)
  have e2:decide (i ≥ 2 ^ 63)=false:=decide_eq_false (by lia)
  rw[e1,e2,Bool.or_false]) (by rw[h1];simpa using h2) ⟨.str ⟨#[c]⟩,H,I.tok _,⟨_,rfl⟩,q⟩) hs
noncomputable def rIx(K:Frag):R2:=fun x y H Q=>rIxL K x y H Q∨rIxT K x y H Q∨rIxS x y H Q
theorem zf6:IxR X (rIx X.K):=ix_list.or (ix_tup.or zf5)
theorem UV(its:List Value)(n j:Nat)(u:Value):Obj.mapSeq (·.setIfInBounds j u) { cls:=.type "list", data:=.seq its.toArray n } = { cls:=.type "list", data:=.seq (its.set j u).toArray n }:=by
 simp[Obj.mapSeq]
theorem Inv.lst{pins:List (Addr×Obj)}{σ:St}{H:Hp}{s:Shared}{p:Addr}{xs:List V}(I:Inv X pins σ H s)(h:H p=some (.lst xs)) :
  ∃(its:List Value) (n:Nat),Vals xs its∧s.heap.get? p=some { cls:=.type "list", data:=.seq its.toArray n }∧xs.length≤sizeLine:=by
 refine byc fun zG=>?_
 obtain⟨z,its,n,r,e⟩:=I.hok p _ h
 refine zG ?_
 exact⟨its,n,r,e,z⟩
theorem Inv.lstUpd{pins:List (Addr×Obj)}{σ:St}{H:Hp}{s:Shared}{p:Addr}{xs ys:List V}{its its':List Value}{n n':Nat}{f:Obj→Obj}(I:Inv X pins σ H s)(h:H p=some (.lst xs))
  (ho:s.heap.get? p=some { cls:=.type "list", data:=.seq its.toArray n }) (hf:f { cls:=.type "list", data:=.seq its.toArray n } = { cls:=.type "list", data:=.seq its'.toArray n' }) (r:Vals ys its') (hz:ys.length≤sizeLine) (t:Nat) :
  Inv X pins σ (upd H p (.lst ys)) { s with heap:=s.heap.update p f,toks:=t }:=by
 have e:(s.heap.update p f).get? p=some { cls:=.type "list", data:=.seq its'.toArray n' }:=by
  rw[Heap.get?_update_self f ho (by rw[hf] <;> rfl),hf]
 refine I.write (x:=p) (e:=p) (by rw[h];trivial) (.inl rfl) (fun b u hb q=>(Heap.get?_update_other _ _ (Ne.symm hb)).trans q) ⟨_,e⟩ ?_
 exact⟨hz,its',n',r,e⟩
noncomputable def rSetL:V→V→V→Hp→(Hp→Prop)→Prop:=fun o i v H Q=>∃p xs k j,o=.ref p∧i=.int k∧H p=some (.lst xs)∧ixN xs.length k=some j∧Q (upd H p (.lst (xs.set j v)))
theorem Q9:PSet X rSetL:=by
 intro pins s σ H o i v ov iv u Q I ro ri rv h
 refine byc fun zG=>?_
 obtain⟨p,xs,k,j,rfl,rfl,hp,hj,q⟩:=h
 refine zG ?_
 cases ro
 refine byc fun zG=>?_
 obtain⟨t,rfl⟩:=ri
 obtain⟨its,n,r,ho,hz⟩:=I.lst hp
 obtain⟨h1,h2,h3,h4⟩:=JQ hj
 refine zG ?_
 have hl:=r.length
 have hn:=jX
 have I':Inv X pins σ (upd H p (.lst (xs.set j v))) { s with heap:=s.heap.update p (Obj.mapSeq (·.setIfInBounds j u)) }:=
  I.lstUpd hp ho (UV its n j u) (r.set rv j) (by rw[List.length_set];exact hz) s.toks
 by_cases h0:0≤k
 ·have hk:k.toNat=j:=by
   rw[seqIndex_of h0 h4] at h1
   exact Option.some.inj h1
  exact PySem.W.ki_setAt ho h0 (by lia) (by rw[size_toArray,← hl];exact h4) (by rw[hk];exact⟨_,I',q⟩)
 ·have hk:(k+(its.toArray.size:Int)).toNat=j:=by
   rw[seqIndex_neg (by lia) h3] at h1
   rw[size_toArray,← hl]
   exact Option.some.inj h1
  exact PySem.W.ki_setBack ho (by lia) (by rw[size_toArray,← hl];exact h3) (by lia) (by rw[hk];exact⟨_,I',q⟩)
theorem WP(lo hi:Option Int)(n:Nat):(sliceBounds lo hi none n).1=((HT.sIx n 0 lo:Nat):Int)∧(sliceBounds lo hi none n).2.1=((HT.sIx n n hi:Nat):Int)∧(sliceBounds lo hi none n).2.2=1:=by
 refine⟨?_,?_,rfl⟩
 ·cases lo with
  |none=>simp[sliceBounds,HT.sIx]
  |some i=>
   simp only[sliceBounds,HT.sIx,Option.getD_none,show(1:Int) > 0 by decide,if_true]
   by_cases h:i<0
   ·simp only[h,if_true] <;> lia
   ·simp only[h,if_false] <;> lia
 ·cases hi with
  |none=>simp[sliceBounds,HT.sIx]
  |some i=>
   simp only[sliceBounds,HT.sIx,Option.getD_none,show(1:Int) > 0 by decide,if_true]
   by_cases h:i<0
   ·simp only[h,if_true] <;> lia
   ·simp only[h,if_false] <;> lia
theorem XS(its:List Value)(lo hi:Option Int):slicePick its.toArray lo hi none=((its.drop (HT.sIx its.length 0 lo)).take (HT.sIx its.length its.length hi-HT.sIx its.length 0 lo)).toArray:=by
 obtain⟨h1,h2,h3⟩:=WP lo hi its.toArray.size
 unfold slicePick
 rw[h1,h2,h3]
 simp only[sliceRange_one,pick_run,size_toArray] <;> rfl
noncomputable def rSlL(K:Frag):V→Option Int→Option Int→Hp→VK→Prop:=fun x lo hi H Q=>∃a xs,x=.ref a∧SqL K H a xs∧∀p,H p=none→Q (.ref p) (upd H p (.lst (QM xs lo hi)))
theorem To:SlR X (rSlL X.K):=by
 intro pins s σ H x v vl vu lo hi sl Q I rx hs pl pu h
 refine byc fun zG=>?_
 obtain⟨a,xs,rfl,hx,q⟩:=h
 refine zG ?_
 cases rx
 refine byc fun zG=>?_
 obtain⟨its,r,ht,hz⟩:=I.list hx
 refine zG ?_
 have hlen:=r.length
 refine⟨"list", _,slot_list_getitem.lookup,ht.isList.typeIs,?_⟩
 refine wpAny_getItem_list_slice ht.isList hs pl pu .none (by simp) ?_ (by rw[size_toArray] <;> lia)
 rw[XS,← hlen]
 refine⟨.ref s.heap.objs.size,_,I.laid (t':=s.toks) (o:=.lst (QM xs lo hi)) (fun b ob q=>get?_push_of_some _ q) (le_refl _) ?_,rfl,q _ (I.hok.fresh (le_refl _))⟩
 exact⟨le_trans (Ut xs lo hi) hz,_,0,(r.drop (HT.sIx xs.length 0 lo)).take (HT.sIx xs.length xs.length hi-HT.sIx xs.length 0 lo),Heap.get?_push_size _ rfl⟩
theorem call_len_seq:CallR X (.builtin "len") (fun xs H Q=>∃p ys,xs=[.ref p]∧(SqL X.K H p ys∨SqT X.K H p ys)∧Q (.int ys.length) H):=by
 intro pins s σ H xs us Q I r h
 refine byc fun zG=>?_
 obtain⟨p,ys,rfl,hq,q⟩:=h
 obtain⟨u,rfl,rx⟩:=vals1 r
 refine zG ?_
 cases rx
 have hn:=jX
 rcases hq with hq|hq
 ·refine byc fun zG=>?_
  obtain⟨its,r',pl,hz⟩:=I.list hq
  refine zG ?_
  have hlen:=r'.length
  exact Calls.call_len_list pl.isList (by simp only[size_toArray] <;> lia) ⟨.int ys.length,H,I.tok _,⟨s.toks+1,by rw[size_toArray,hlen]⟩,q⟩
 ·refine byc fun zG=>?_
  obtain⟨its,r',pl,hz⟩:=I.tuple hq
  refine zG ?_
  have hlen:=r'.length
  exact len_tuple pl (by simp only[size_toArray] <;> lia) ⟨.int ys.length,H,I.tok _,⟨s.toks+1,by rw[size_toArray,hlen]⟩,q⟩
theorem Vw:CallR X (.builtin "len") (fun xs H Q=>∃z,xs=[.str z]∧z.length≤sizeLine∧Q (.int z.length) H):=by
 intro pins s σ H xs us Q I r h
 refine byc fun zG=>?_
 obtain⟨z,rfl,hz,q⟩:=h
 obtain⟨u,rfl,t,rfl⟩:=vals1 r
 refine zG ?_
 have hn:=jX
 exact len_str (by lia) ⟨.int z.length,H,I.tok _,⟨_,rfl⟩,q⟩
theorem CallR.or{f:Value}{r r':List V→Hp→VK→Prop}(h:CallR X f r)(h':CallR X f r'):CallR X f (fun xs H Q=>r xs H Q∨r' xs H Q):=by
 intro pins s σ H xs us Q I rs q
 rcases q with q|q
 ·exact h pins s σ H xs us Q I rs q
 ·exact h' pins s σ H xs us Q I rs q
theorem ZF:CallR X (.type "list") (fun xs H Q=>∃p ys,xs=[.ref p]∧(SqL X.K H p ys∨SqT X.K H p ys)∧∀l,H l=none→Q (.ref l) (upd H l (.lst ys))):=by
 intro pins s σ H xs us Q I r h
 refine byc fun zG=>?_
 obtain⟨p,ys,rfl,hq,q⟩:=h
 obtain⟨u,rfl,rx⟩:=vals1 r
 refine zG ?_
 cases rx
 have fin:∀(its:List Value),Vals ys its→ys.length≤sizeLine→∀(h':Heap) (c':Nat),(∀b o',s.heap.get? b=some o'→h'.get? b=some o') →
   h'.get? s.heap.objs.size=some { cls:=.type "list", dict:=none,data:=.seq its.toArray c',slots:=#[] }→EP X pins σ Q (.ref s.heap.objs.size) { s with heap:=h' }:=fun its r' hz h' c' kp e=>
  ⟨.ref s.heap.objs.size,_,I.laid (t':=s.toks) kp (le_refl _) (show ObjOk X.prog X.w _ h' _ (.lst ys) from ⟨hz,its,c',r',e⟩),rfl,q _ (I.hok.fresh (le_refl _))⟩
 rcases hq with hq|hq
 ·refine byc fun zG=>?_
  obtain⟨its,r',pl,hz⟩:=I.list hq
  have hlen:=r'.length
  obtain⟨o,ho,hc,n,hd⟩:=pl.isList
  refine zG ?_
  exact call_list_seq p (.inl rfl) ho hc hd (fun h' c' kp e=>fin its r' hz h' c' kp e) (by simp only[size_toArray] <;> lia)
 ·refine byc fun zG=>?_
  obtain⟨its,r',pl,hz⟩:=I.tuple hq
  have hlen:=r'.length
  obtain⟨o,ho,hc,n,hd⟩:=pl
  refine zG ?_
  exact call_list_seq p (.inr rfl) ho hc hd (fun h' c' kp e=>fin its r' hz h' c' kp e) (by simp only[size_toArray] <;> lia)
noncomputable def tyV(K:Frag)(T:String)(x:V)(H:Hp):Prop:=match x with
 |.str _=>T = "str"
 |.int _=>T = "int"
 |.ref p=>(T = "list" ∧ ∃xs,SqL K H p xs)∨(T = "tuple" ∧ ∃o,K.lookup p=some o∧o.cls=.type "tuple" ∧ o.dict=none) ∨
   (T = "dict" ∧ ((∃kvs,H p=some (.dK kvs))∨∃kvs,H p=some (.dT kvs)))∨(T = "set" ∧ ∃S n,H p=some (.set S n))
 |_=>False
theorem QY{pins:List (Addr×Obj)}{σ:St}{H:Hp}{s:Shared}{T:String}{x:V}{v:Value}(I:Inv X pins σ H s)(r:RelV x v)(ty:tyV X.K T x H) :
  s.TypeIs v T∧∀a,v=.ref a→∃ob,s.heap.get? a=some ob∧ob.dict=none:=by
 cases x with
 |str z=>
  obtain⟨t,rfl⟩:=r
  cases (show T = "str" from ty)
  exact⟨typeIs_str s z t,fun _ e=>nomatch e⟩
 |int i=>
  obtain⟨t,rfl⟩:=r
  cases (show T = "int" from ty)
  exact⟨typeIs_int s i t,fun _ e=>nomatch e⟩
 |ref p=>
  cases r
  rcases ty with ⟨rfl,xs,hq⟩|⟨rfl,o,hk,hc,hd⟩|⟨rfl,hk⟩|⟨rfl,S,n,hk⟩
  ·refine byc fun zG=>?_
   obtain⟨its,_,pl,_⟩:=I.list hq
   refine zG ?_
   refine⟨pl.isList.typeIs,fun a e=>?_⟩
   cases e
   refine byc fun zG=>?_
   obtain⟨o,n,e,c,hd,_⟩:=pl
   refine zG ?_
   exact⟨o,e,hd⟩
  ·refine⟨⟨o,I.kIn p o hk,hc⟩,fun a e=>?_⟩
   cases e
   exact⟨o,I.kIn _ o hk,hd⟩
  ·have z:∃o,s.heap.get? p=some o∧o.ExactDict:=by
    rcases hk with ⟨kvs,hk⟩|⟨kvs,hk⟩
    ·refine byc fun zG=>?_
     obtain⟨_,_,_,_,o,_,_,e,ex,_⟩:=I.hok p _ hk
     refine zG ?_
     exact⟨o,e,ex⟩
    ·refine byc fun zG=>?_
     obtain⟨_,_,_,_,o,_,_,e,ex,_⟩:=I.hok p _ hk
     refine zG ?_
     exact⟨o,e,ex⟩
   obtain⟨o,e,ex⟩:=z
   refine⟨⟨o,e,ex.1⟩,fun a e2=>?_⟩
   cases e2
   exact⟨o,e,ex.2.1⟩
  ·refine byc fun zG=>?_
   obtain⟨o,_,_,_,e,ex,_⟩:=I.hok p _ hk
   refine zG ?_
   refine⟨⟨o,e,ex.1⟩,fun a e2=>?_⟩
   cases e2
   exact⟨o,e,ex.2.1⟩
 |_=>exact False.elim ty
noncomputable def tBM0(K:Frag)(T:String)(r:V→List V→Hp→VK→Prop)(to:TE):TE:=fun σ H Q=>to σ H fun x H1=>tyV K T x H1∧r x [] H1 Q
noncomputable def tBM(K:Frag)(T:String)(r:V→List V→Hp→VK→Prop)(to:TE)(t:TA):TE:=fun σ H Q=>to σ H fun x H1=>tyV K T x H1∧t σ H1 fun xs H2=>r x xs H2 Q
variable{o e:Expr}{es:List Expr}{to:TE}{t:TA}{name:Str}{apos cpos:Pos}{T id:String}{r:V→List V→Hp→VK→Prop}
theorem GD(pa:PlainAttrs T)(slot:Slot T name id)(hty:typeOf (.builtin id)=pure (.type "method_descriptor"))(hm:MtR X id r)(ho:PE X o to)
  (hbase:attributeBase o name X.env (eval o X.env)=eval o X.env:=by rfl) (hline:(apos.endLine==cpos.line)=true:=by rfl):PE X (.Call (.Attribute o name apos) [] [] cpos) (tBM0 X.K T r to):=by
 intro pins s σ H Q I h
 refine wpAny_Call_method0_late hbase hline (thn (ho pins s σ H _ I h) fun v s1 z_=>?_)
 refine byc fun zG=>?_
 obtain⟨x,H1,I1,r1,ty,q1⟩:=z_
 obtain⟨h1,h2⟩:=QY I1 r1 ty
 refine zG ?_
 exact⟨T,id,pa,slot,hty,h1,h2,Calls.callWith_builtin rfl (PySem.evalArgs_none (hm pins s1 σ H1 x [] v [] Q I1 r1 .nil q1))⟩
theorem GE(pa:PlainAttrs T)(slot:Slot T name id)(hty:typeOf (.builtin id)=pure (.type "method_descriptor"))(hm:MtR X id r)(ho:PE X o to)(ha:PA X (e::es) t)
  (hbase:attributeBase o name X.env (eval o X.env)=eval o X.env:=by rfl)
  (hfew:((backTo cpos (starEach (e::es) X.env)).all (fun x=>!x.1)&&(backToKw cpos (keywordEach [] X.env)).all (fun x=>x.1.isSome)
   && decide ((e::es).length+([]:List Keyword).length+(if ([]:List Keyword).isEmpty then 0 else 1)<30))=true:=by rfl)
  (hline:(apos.endLine==cpos.line)=true:=by rfl) (hs:starEach (e::es) X.env=(false,eval e X.env)::starEach es X.env:=by rfl) (hplain:(backTo cpos (starEach es X.env)).any (·.1)=false:=by rfl) :
  PE X (.Call (.Attribute o name apos) (e::es) [] cpos) (tBM X.K T r to t):=by
 intro pins s σ H Q I h
 refine wpAny_Call_method_late hbase hfew hline rfl (thn (ho pins s σ H _ I h) fun v s1 z_=>?_)
 refine byc fun zG=>?_
 obtain⟨x,H1,I1,r1,ty,q1⟩:=z_
 obtain⟨h1,h2⟩:=QY I1 r1 ty
 refine zG ?_
 refine⟨T,id,pa,slot,hty,h1,h2,?_⟩
 have hA:=ha cpos pins s1 σ H1 _ I1 q1
 rw[hs] at hA ⊢
 refine Calls.callWith_builtin (by show(false||(backTo cpos (starEach es X.env)).any (·.1))=false;rw[hplain] <;> rfl) (Calls.evalArgs_plain ?_)
 exact thn hA fun us s2 z_=>by obtain⟨vs,H2,I2,r2,q2⟩:=z_;exact hm pins s2 σ H2 x vs v us Q I2 r1 r2 q2
end
noncomputable def MtM(X:Cx)(id:String)(r:V→List V→Hp→VK→Prop):Prop:=
 ∀(pins:List (Addr×Obj)) (s:Shared) (σ:St) (H:Hp) (x:V) (xs:List V) (v:Value) (us:List Value) (Q:VK),Inv X pins σ H s→RelV x v→Vals xs us→r x xs H Q →
  wpAny (model X.prog X.w) X.A (call (.builtin id) (v::us)) (EP X pins σ Q) X.xe s
theorem Vals.one{x:V}{us:List Value}(h:Vals [x] us):∃u,us=[u]∧RelV x u:=by
 cases h with
 |cons r h=>cases h;exact⟨_,rfl,r⟩
theorem Vals.zero:∀{us:List Value},Vals [] us→us=[]
 |_,.nil=>rfl
theorem Vals.dropLast{xs:List V}{us:List Value}(h:Vals xs us):Vals xs.dropLast us.dropLast:=by
 induction h with
 |nil=>exact .nil
 |cons r t ih=>
  cases t with
  |nil=>exact .nil
  |cons q t'=>exact .cons r ih
theorem Vals.rep{xs:List V}{us:List Value}(h:Vals xs us):∀k:Nat,Vals (List.replicate k xs).flatten (List.replicate k us).flatten:=by
 intro l_
 induction l_ with
 |zero=>
  exact .nil
 |succ k ih_=>
  rw[replicate_succ,replicate_succ,flatten_cons,flatten_cons]
  exact Vals.append h (ih_)
theorem U7{α:Type}(l:List α):l.eraseIdx (l.length-1)=l.dropLast:=by
 induction l with
 |nil=>rfl
 |cons a r ih=>
  cases r with
  |nil=>rfl
  |cons b r=>
   have e:(a::b::r).length-1=((b::r).length-1)+1:=by
    have h1:(a::b::r).length=r.length+2:=rfl
    have h2:(b::r).length=r.length+1:=rfl
    lia
   rw[e,List.eraseIdx_cons_succ,ih]
   all_goals rfl
theorem foldl_rep(its:List Value):∀(k:Nat) (acc:List Value),
  List.foldl (fun x1 x2=>x1++x2) acc.toArray (List.replicate k its.toArray)=(acc++(List.replicate k its).flatten).toArray:=by
 intro l_
 induction l_ with
 |zero=>
  rintro acc
  simp
 |succ k ih_=>
  rintro acc
  have e:acc.toArray++its.toArray=(acc++its).toArray:=by simp
  have e2:(acc++its)++(List.replicate k its).flatten=acc++(List.replicate (k+1) its).flatten:=by
   rw[replicate_succ,flatten_cons,List.append_assoc]
  rw[← e2,← ih_ (acc++its),← e,replicate_succ,foldl_cons]
section
variable{X:Cx}{pins:List (Addr×Obj)}{σ:St}{H:Hp}{s:Shared}{l b:Addr}{xs ys zs:List V}
theorem Inv.lset{its its':List Value}{n:Nat}{f:Array Value→Array Value}{t':Nat}(I:Inv X pins σ H s)(hH:H l=some (.lst xs))
  (e:s.heap.get? l=some { cls:=.type "list", data:=.seq its.toArray n }) (hf:f its.toArray=its'.toArray) (hv:Vals ys its') (hz:ys.length≤sizeLine) :
  Inv X pins σ (upd H l (.lst ys)) { s with heap:=s.heap.update l (Obj.mapSeq f),toks:=t' }:=by
 have q:=PySem.IsL.update e f
 rw[hf] at q
 refine I.write (x:=l) (e:=l) (by rw[hH];exact trivial) (.inl rfl) (fun b' u hb hu=>(Heap.get?_update_other s.heap (Obj.mapSeq f) (Ne.symm hb)).trans hu) ⟨_,q⟩ ?_
 exact⟨hz,its',_,hv,q⟩
theorem Inv.lnew{its:List Value}{t':Nat}(I:Inv X pins σ H s)(hv:Vals ys its)(hz:ys.length≤sizeLine) :
  Inv X pins σ (upd H s.heap.objs.size (.lst ys)) { s with heap:=s.heap.push { cls:=.type "list", data:=.seq its.toArray },toks:=t' }:=
 I.laid (fun _ _ q=>get?_push_of_some _ q) (le_refl _) ⟨hz,its,0,hv,Heap.get?_push_size _ rfl⟩
theorem Inv.fresh(I:Inv X pins σ H s):H s.heap.objs.size=none:=I.hok.fresh (le_refl _)
theorem Inv.lstM(I:Inv X pins σ H s)(hH:H l=some (.lst xs)):xs.length≤sizeLine∧∃(its:List Value) (n:Nat),Vals xs its∧xs.length=its.length∧s.heap.get? l=some { cls:=.type "list", data:=.seq its.toArray n }:=by
 refine byc fun zG=>?_
 obtain⟨z,its,n,r,e⟩:=I.hok l _ hH
 refine zG ?_
 exact⟨z,its,n,r,r.length,e⟩
theorem G0{n:Nat}(h:n≤sizeLine):Builtin.List.listTooLong n=false:=by
 unfold Builtin.List.listTooLong
 exact decide_eq_false (by lia)
end
section
variable{X:Cx}
noncomputable def TB:V→List V→Hp→VK→Prop:=fun x vs H Q=>∃l xs y,x=.ref l∧vs=[y]∧H l=some (.lst xs)∧xs.length<sizeLine∧Q .non (upd H l (.lst (xs++[y])))
theorem jx:MtM X "list.append" TB:=by
 intro pins s σ H x vs v us Q I rx rv h
 refine byc fun zG=>?_
 obtain⟨l,xs,y,rfl,rfl,hH,hz,q⟩:=h
 refine zG ?_
 cases rx
 refine byc fun zG=>?_
 obtain⟨u,rfl,ru⟩:=rv.one
 obtain⟨z,its,n,r,hl,e⟩:=I.lstM hH
 refine zG ?_
 refine call_meets F.slot_list_append ⟨_,e,rfl⟩ F.entry_list_append (F.args_list_append_2 _ _) (PySem.list_append l its.toArray n u (by rw[size_toArray];lia)) ⟨e,?_⟩
 refine⟨.non,_,I.lset (its':=its++[u]) hH e (by simp) (r.append (.cons ru .nil)) ?_,rfl,q⟩
 rw[length_append,length_singleton]
 lia
noncomputable def rPop:V→List V→Hp→VK→Prop:=fun x vs H Q=>∃l xs y,x=.ref l∧vs=[]∧H l=some (.lst xs)∧xs[xs.length-1]?=some y∧Q y (upd H l (.lst xs.dropLast))
theorem ze6:MtM X "list.pop" rPop:=by
 intro pins s σ H x vs v us Q I rx rv h
 refine byc fun zG=>?_
 obtain⟨l,xs,y,rfl,rfl,hH,hy,q⟩:=h
 refine zG ?_
 cases rx
 have hus:=rv.zero
 subst hus
 refine byc fun zG=>?_
 obtain⟨z,its,n,r,hl,e⟩:=I.lstM hH
 obtain⟨u,hu,ru⟩:=r.get hy
 refine zG ?_
 have hy':its.toArray[its.toArray.size-1]?=some u:=by
  show its.toArray[its.length-1]?=some u
  rw[← Array.getElem?_toList,← hl]
  exact hu
 refine call_meets F.slot_list_pop ⟨_,e,rfl⟩ F.entry_list_pop (F.args_list_pop_1 _) (MeetsSeq.list_pop_last l its.toArray n u hy' (by rw[size_toArray];lia)) ⟨e,?_⟩
 refine⟨y,_,I.lset (its':=its.dropLast) hH e ?_ r.dropLast ?_,ru,q⟩
 ·show its.toArray.eraseIdxIfInBounds (its.toArray.size-1)=its.dropLast.toArray
  rw[size_toArray,List.eraseIdxIfInBounds_toArray,U7]
 ·rw[List.length_dropLast]
  lia
noncomputable def rCat:R2:=fun x y H Q=>∃l b xs zs,x=.ref l∧y=.ref b∧H l=some (.lst xs)∧H b=some (.lst zs)∧xs.length+zs.length≤sizeLine∧∀p,H p=none→Q (.ref p) (upd H p (.lst (xs++zs)))
theorem zd6:OpR X (binaryOp .Add) rCat:=by
 intro pins s σ H x y v u Q I rx ry h
 refine byc fun zG=>?_
 obtain⟨l,b,xs,zs,rfl,rfl,hH,hB,hz,q⟩:=h
 refine zG ?_
 cases rx
 cases ry
 refine byc fun zG=>?_
 obtain⟨z,its,n,r,hl,e⟩:=I.lstM hH
 obtain⟨z2,its2,n2,r2,hl2,e2⟩:=I.lstM hB
 refine zG ?_
 refine PySem.P.add_list e e2 ?_ (by rw[size_toArray,size_toArray];lia)
 have ea:its.toArray++its2.toArray=(its++its2).toArray:=by simp
 rw[ea]
 exact⟨.ref _,_,I.lnew (t':=s.toks) (r.append r2) (by rw[length_append];lia),rfl,q _ I.fresh⟩
noncomputable def rRep:R2:=fun x y H Q=>∃l k xs,x=.ref l∧y=.int k∧H l=some (.lst xs)∧-(2 ^ 63)≤k∧k<2 ^ 63∧xs.length*k.toNat≤sizeLine ∧
 ∀p,H p=none→Q (.ref p) (upd H p (.lst (List.replicate k.toNat xs).flatten))
theorem Li{α:Type}(xs:List α)(k:Nat):(List.replicate k xs).flatten.length=k*xs.length:=by
 induction k with
 |zero=>simp
 |succ k ih=>rw[replicate_succ,flatten_cons,length_append,ih,Nat.succ_mul,Nat.add_comm]
theorem zd3:OpR X (binaryOp .Mult) rRep:=by
 intro pins s σ H x y v u Q I rx ry h
 refine byc fun zG=>?_
 obtain⟨l,k,xs,rfl,rfl,hH,h1,h2,hz,q⟩:=h
 refine zG ?_
 cases rx
 refine byc fun zG=>?_
 obtain⟨t,rfl⟩:=ry
 obtain⟨z,its,n,r,hl,e⟩:=I.lstM hH
 refine zG ?_
 have hlen:its.toArray.size*k.toNat≤sizeLine:=by rw[size_toArray,← hl];exact hz
 have hcap:¬ its.toArray.size*k.toNat > (2 ^ 63-1) / 8:=by
  have:(sizeLine:Nat)≤(2 ^ 63-1) / 8:=by decide
  lia
 have hfit:¬ (!Builtin.List.listFitsIndex k)=true:=by
  rw[fitsIndex_both h1 h2]
  exact Bool.false_ne_true
 have hlong:¬ Builtin.List.listTooLong (its.toArray.size*k.toNat)=true:=by
  rw[G0 hlen]
  exact Bool.false_ne_true
 have hnew:List.foldl (fun x1 x2=>x1++x2) #[] (List.replicate (if its.toArray.isEmpty=true then 0 else k.toNat) its.toArray)=(List.replicate k.toNat its).flatten.toArray:=by
  have f0:∀m:Nat,List.foldl (fun x1 x2=>x1++x2) #[] (List.replicate m its.toArray)=(List.replicate m its).flatten.toArray:=fun m=>by
   have:=foldl_rep its m []
   rw[nil_append] at this
   exact this
  rw[f0]
  cases its with
  |nil=>simp
  |cons a r'=>rw[if_neg (by simp)]
 refine wpAny_binaryOp_repeat_ref (T := "list") (U := "int") (by decide) ⟨_,e,rfl⟩ (fun s'=>typeIs_int s' k t) noFill_list_mul F.fills_int_mul F.slot_int_rmul repeat_list F.slot_int_index.lookup
  (call_meets F.slot_int_rmul (typeIs_int s k t) F.entry_int_rmul (F.args_int_rmul_2 _ _) (int___rmul___int_list k t l its.toArray n)
   ⟨e,rfl,⟨_,e,rfl⟩,call_meets F.slot_list_mul ⟨_,e,rfl⟩ F.entry_list_mul (F.args_list_mul_2 _ _) (AutoListH.list___mul___list_int_3 l its.toArray n k t hfit hcap hlong) ⟨e,?_⟩⟩)
 rw[hnew]
 exact⟨.ref _,_,I.lnew (t':=s.toks) (r.rep k.toNat) (by rw[Li,Nat.mul_comm];exact hz),rfl,q _ I.fresh⟩
end
section
variable{prog:Program}{w:World}{A:Around}{E:Value→Shared→Prop}{s:Shared}
end
section
variable{X:Cx}
end
end L2
namespace Att
open PySem PySem.W PySem.Calls PyProof.Rows
theorem Ys{P:Params}{h:Heap}:∀(ns:List Int) (vs:List Value),WellAll P h vs (ns.map WData.int)→IntsAre vs ns:=by
 intro ns
 induction ns with
 |nil=>
  intro vs w
  rw[map_nil] at w
  cases w
  exact .nil
 |cons n ns ih=>
  intro vs w
  rw[map_cons] at w
  cases w with
  |cons a b=>
   cases a
   exact .cons _ _ (ih _ b)
theorem Qd{l:OpenLaw}{n:Nat}(hn:l.most=some n){P:Params}{h:Heap}{args:List WData}{vals:List Value}
  (hpre:l.row.toRowW.claim.pre args=true) (hwl:WellAll P h vals args) :
  ∃a vs ns,vals=[Value.ref a]∧args=[WData.list (ns.map WData.int)]∧h.get? a=some { cls:=.type "list", data:=.seq vs.toArray }∧IntsAre vs ns∧ns.length≤n:=by
 have hsh:WShape.hasAll [] args [.list .int]=true:=(pre_splitW hpre).1
 have hc:l.pre.holds [] { args:=args }=true:=(pre_splitW hpre).2
 refine byc fun zG=>?_
 obtain⟨d,r,rfl,h1,h2⟩:=hasAllW_cons hsh
 refine zG ?_
 obtain rfl:=hasAllW_nil h2
 refine byc fun zG=>?_
 obtain⟨xs,rfl,h3⟩:=hasW_list h1
 obtain⟨ns,rfl⟩:=items_int h3
 refine zG ?_
 have hlen:ns.length≤n:=by
  unfold OpenLaw.pre at hc
  have h4:(WTm.not (.lt (.lit (.int (n:Int))) (.len (.arg 0)))).holds [] { args:=[.list (ns.map .int)] }=true:=by
   have h4:=(holds_andW hc).1
   rw[hn] at h4
   exact h4
  have h5:=condW_of h4 (w_not (w_lt w_lit (w_len_list (w_arg rfl))))
  rw[length_map] at h5
  refine Nat.le_of_not_lt fun q=>?_
  have q':(n:Int)<((ns.length:Nat):Int):=by lia
  first
   | (rw[decide_eq_true q'] at h5;exact absurd h5 (by decide))
   | (simp at h5;lia)
 cases hwl with
 |cons w1 w2=>
  cases w2
  cases w1 with
  |list ho hall=>exact⟨_,_,ns,rfl,rfl,ho,Ys ns _ hall,hlen⟩
theorem Qh(l:OpenLaw)(args:List WData):l.row.toRowW.claim.post args (.bool true) args=true:=
 postW_of (r:=l.row.toRowW) (X:=(true==true))
  (show WShape.has [] (.bool true) .bool=true by first|rfl|decide|simp[WShape.has,WShape.arms,WShape.armsAll])
  (show(WTm.eq .res (.lit (.bool true))).value [] { args:=args,res:=some (.bool true),after:=args }=some (.bool (true==true)) from w_eq_bool (w_res rfl) w_lit) rfl
theorem attach_call{l:OpenLaw}{n:Nat}{q:Program}{loose:List Str}{XP:(Str→Option Value)→Heap→Prop}{YP:World→Heap→Prop}{d:DefRec}
  (hn:l.most=some n) (hdf:d.params.defaults=[])
  (call:∀(w:World) (s₀ s₁:Shared) (mg mb:Str→Option Value) (fa:Addr) (o:Obj) (pm cd doc:Value) (a:Addr) (vs:List Value) (ns:List Int),
   Ground q loose [] XP w s₀ mg mb s₁.heap→YP w s₁.heap →
   s₁.heap.get? fa=some o→o.data=.func (docDef d.name d.params d.body d.scope pm cd doc)→s₁.heap.CodeRec cd d.name→mg d.name=some (.ref fa) →
   s₁.heap.get? a=some { cls:=.type "list", data:=.seq vs.toArray }→IntsAre vs ns→ns.length≤n→s₁.gens = #[] →
   codeAny (model l.prog w) callerA (.call (.ref fa) ⟨[.ref a],[]⟩) (fun r s'=>r=.ok (.ret (.bool true))∧OldK s₁.heap s'.heap∧s'.os=s₁.os∧AllBare s'.gens) s₁) :
  WalkO q loose XP YP l.row.toRowW d [] (fun f vs=>PySem.call f vs):=by
 intro w s₀ s₁ mg mb G Y fa o pm cd doc dV kV ho hd hcd hD hmg hg args vals as hpre hlay hrd hwl hlo
 obtain rfl:dV=.none:=Dflts.none hD hdf
 obtain rfl:kV=.none:=Dflts.noKw hD
 refine byc fun zG=>?_
 obtain⟨a,vs,ns,rfl,rfl,hobj,hints,hlen⟩:=Qd hn hpre hwl
 refine zG ?_
 refine enter_call (codeAny_mono (call w s₀ s₁ mg mb fa o pm cd doc a vs ns G Y ho (fd_plain hd) hcd hmg hobj hints hlen hg) fun r s' hq=>?_)
 refine byc fun zG=>?_
 obtain⟨rfl,h2,h3,h4⟩:=hq
 refine zG ?_
 exact⟨.inl ⟨.bool true,.bool true,[],rfl,fun _=>rfl,.bool true,Qh l _,fun _=>⟨List.Pairwise.nil,fun _ hm=>(nomatch hm)⟩⟩,h2,h3,h4⟩
section
variable{prog:Program}{w:World}{A:Around}{E:Value→Shared→Prop}{s:Shared}{K:Frag}
end
end Att
namespace L2
open PySem PySem.Spec PyProof.Rows
theorem vals_ints:∀{vs:List Value} {ns:List Int},IntsAre vs ns→Vals (ns.map V.int) vs
 |_,_,.nil=>.nil
 |_,_,.cons n t h=>.cons ⟨t,rfl⟩ (vals_ints h)
noncomputable def Only(H:Hp):Prop:=∀b,H b=none∨∃o xs,H b=some (.frz o (.lst xs))
noncomputable def wV(s:Stmt)(j:Nat):Stmt:=match s with
 |.ClassDef _ _ _ body _ _ _ _ _ _ _=>body.getD j (.Pass ⟨0,0,0,0⟩)
 |_=>.Pass ⟨0,0,0,0⟩
noncomputable def zE(s:Stmt):Arguments:=match s with
 |.FunctionDef _ a _ _ _ _ _ _ _ _=>a
 |_=>{ posonlyargs:=[],args:=[],vararg:=none,kwonlyargs:=[],kw_defaults:=[],kwarg:=none,defaults:=[] }
noncomputable def zt(s:Stmt):List Stmt:=match s with
 |.FunctionDef _ _ b _ _ _ _ _ _ _=>b
 |_=>[]
noncomputable def zi(s:Stmt):Scope:=match s with
 |.FunctionDef _ _ _ _ _ _ sc _ _ _=>sc
 |_=>{ kind:=.function,names:=[],isGenerator:=false,isCoroutine:=false }
noncomputable abbrev CX0:CXT:=fun _ _ _ _ _ _=>False
noncomputable abbrev E0:XK:=fun _ _ _=>False
theorem Z9{X:Cx}:j5 CX0 X E0:=fun _ _ _ _ _ _ _ h=>h.elim
structure Fun(K:Frag)(x qual:Str)(st:Stmt)(f:Addr)(fd:FuncData):Prop where
 ex:∃(oc:Value) (od:Option Addr) (kV doc pm:Value) (an:Option Addr) (cdv ct:Value) (osl:Array (Option Value)),
  fd=fnOf x qual (zE st) (zt st) (zi st) .none kV doc pm an cdv ct∧K.lookup f=some ⟨oc,od,.func fd,osl⟩∧codeIn K cdv qual=true
 kp:keepIn K (.ref f)=true
section
variable{P:Program}{w:World}{K:Frag}{mg:Str→Option Value}{base:Heap}
theorem Fun.ok{x qual:Str}{st:Stmt}{f:Addr}{fd:FuncData}{N ps:List Str}{k:Nat}{sp:Sp}(F:Fun K x qual st f fd)(S:zD N ps (zi st))(len:∀vs H Q E,sp vs H Q E→vs.length=ps.length)
  (hbody:∀(cdv:Value) (A:Around) (outer:List Env) (s:Shared) (H:Hp) (vs:List V) (Q:VK) (E:XK),Room k (A.deeper (envOfC qual (zi st) s.heap.objs.size f cdv))→sp vs H Q E →
   ∃t,PSs (uS CX0 P w K mg base N qual (zi st) f cdv A outer s H E).nox (zt st) t∧t { nx:=fun _ H'=>Q .non H',rt:=Q } (start N vs) H):FnOk P w K mg base CX0 (k+1) f fd ps sp:=by
 refine byc fun zG=>?_
 obtain⟨oc,od,kV,doc,pm,an,cdv,ct,osl,rfl,lk,hcd⟩:=F.ex
 refine zG ?_
 refine L6 lk hcd S len fun A outer s H vs Q E hr hsp=>?_
 obtain⟨t,h,q⟩:=hbody cdv A outer s H vs Q E hr hsp
 exact⟨t,h.nox,q⟩
theorem Fun.binds{x qual:Str}{st:Stmt}{f:Addr}{fd:FuncData}{ps:List Str}(F:Fun K x qual st f fd)
  (h:∀(kV doc pm:Value) (an:Option Addr) (cdv ct:Value) (us:List Value),us.length=ps.length→bindArgs (fnOf x qual (zE st) (zt st) (zi st) .none kV doc pm an cdv ct) ⟨us,[]⟩=pure (ps.zip us)):Binds K fd ps []:=by
 refine byc fun zG=>?_
 obtain⟨oc,od,kV,doc,pm,an,cdv,ct,osl,rfl,lk,hcd⟩:=F.ex
 refine zG ?_
 exact .all (h kV doc pm an cdv ct)
theorem z7{x qual:Str}{st:Stmt}{f:Addr}{oc:Value}{od an:Option Addr}{osl:Array (Option Value)}{kV doc pm cdv ct:Value}(l:K.lookup f=some ⟨oc,od,.func (fnOf x qual (zE st) (zt st) (zi st) .none kV doc pm an cdv ct),osl⟩)
  (c:codeIn K cdv qual=true) (k:keepIn K (.ref f)=true):Fun K x qual st f (fnOf x qual (zE st) (zt st) (zi st) .none kV doc pm an cdv ct):=⟨⟨oc,od,kV,doc,pm,an,cdv,ct,osl,rfl,l,c⟩,k⟩
end
theorem w6{n:Nat}(h:n≤1000):n<sizeLine:=Nat.lt_of_le_of_lt h (by decide)
section
variable{X:Cx}
theorem pv(i:Nat){x:Str}{pos:Pos}(hN:X.N[i]?=some x:=by rfl)(hv:Vis X.env.scope x:=by first|exact Or.inl rfl|exact Or.inr (Or.inl rfl) | exact Or.inr (Or.inr rfl))(hd:(x==("__debug__" : Str))=false:=by decide)
  (hcd:(x==("__classdict__" : Str))=false:=by decide):PE X (.Name x pos) (wN i):=zc1 hN hv hd hcd
end
noncomputable def Same(H H':Hp):Prop:=∀b o,H b=some o→H' b=some o
theorem Same.refl(H:Hp):Same H H:=fun _ _ h=>h
theorem Same.trans{H H1 H2:Hp}(a:Same H H1)(b:Same H1 H2):Same H H2:=fun c o h=>b c o (a c o h)
theorem Same.seq{K:Frag}{H H':Hp}{a:Addr}{xs:List V}(e:Same H H')(h:SqL K H a xs):SqL K H' a xs:=by
 rcases h with (h|⟨o,h⟩) | h
 ·exact .inl (.inl (e _ _ h))
 ·exact .inl (.inr ⟨o,e _ _ h⟩)
 ·exact .inr h
end L2
namespace FD
open PySem PySem.Spec PyProof.Rows L2
noncomputable abbrev St:=L2.St
inductive D where
 | non|bl (b:Bool) | int (i:Int) | str (x:Str) | lst (xs:List D) | tup (xs:List D) | scr (ns:List Int) | raw (v:V) | exc (c:Str) | dct (ks:List Key) (ds:List D)
inductive Rs (α:Type) where
 | ok (a:α) | ex (c:Str) | no
noncomputable def Rs.bind{α β:Type}(r:Rs α)(k:α→Rs β):Rs β:=match r with
 |.ok a=>k a
 |.ex c=>.ex c
 |.no=>.no
@[simp] theorem Rs.bind_ok{α β:Type}(a:α)(k:α→Rs β):(Rs.ok a).bind k=k a:=rfl
noncomputable def excIs(K:Frag)(a:Addr)(c:Str):Heap→Prop:=fun h=>∃oe cls vs,h.get? a=some oe∧oe.cls=cls∧oe.dict=none∧oe.data=.fields vs∧nsIn K mainGlobals c=some (some cls)
section
variable(K:Frag)
mutual
noncomputable def Rep(F:Hp):D→V→Prop
 |.non,v=>v=.non
 |.bl b,v=>v=.bl b
 |.int i,v=>v=.int i
 |.str x,v=>v=.str x
 |.lst ds,v=>∃a vs,v=.ref a∧F a=some (.lst vs)∧Reps F ds vs
 |.scr ns,v=>∃a,v=.ref a∧SqL K F a (ns.map V.int)
 |.tup ds,v=>∃a vs,v=.ref a∧SqT K F a vs∧Reps F ds vs
 |.raw u,v=>v=u
 |.exc c,v=>∃a,v=.ref a∧F a=some (.ext (excIs K a c))
 |.dct ks ds,v=>∃a kvs o,v=.ref a∧F a=some (.frz o (.dK kvs))∧kvs.map (·.1)=ks∧Reps F ds (kvs.map (·.2))
noncomputable def Reps(F:Hp):List D→List V→Prop
 |[],vs=>vs=[]
 |d::ds,vs=>∃v r,vs=v::r∧Rep F d v∧Reps F ds r
end
end
theorem Same.refl(H:Hp):Same H H:=fun _ _ h=>h
theorem Same.seqT{K:Frag}{H H':Hp}{a:Addr}{xs:List V}(e:Same H H')(h:SqT K H a xs):SqT K H' a xs:=by
 rcases h with (h|⟨o,h⟩) | h
 ·exact .inl (.inl (e _ _ h))
 ·exact .inl (.inr ⟨o,e _ _ h⟩)
 ·exact .inr h
section
variable{K:Frag}{F F':Hp}
mutual
theorem Rep.mono(h:Same F F'):∀{d:D} {v:V},Rep K F d v→Rep K F' d v
 |.non,_,r=>by simpa only[Rep] using r
 |.bl _,_,r=>by simpa only[Rep] using r
 |.int _,_,r=>by simpa only[Rep] using r
 |.str _,_,r=>by simpa only[Rep] using r
 |.raw _,_,r=>by simpa only[Rep] using r
 |.exc c,v,r=>by
  simp only[Rep] at r ⊢
  obtain⟨a,e,q⟩:=r
  exact⟨a,e,h _ _ q⟩
 |.dct ks ds,v,r=>by
  simp only[Rep] at r ⊢
  refine byc fun zG=>?_
  obtain⟨a,kvs,o,e,q,k,t⟩:=r
  refine zG ?_
  exact⟨a,kvs,o,e,h _ _ q,k,Reps.mono h t⟩
 |.lst ds,v,r=>by
  simp only[Rep] at r ⊢
  refine byc fun zG=>?_
  obtain⟨a,vs,e,q,t⟩:=r
  refine zG ?_
  exact⟨a,vs,e,h _ _ q,Reps.mono h t⟩
 |.scr ns,v,r=>by
  simp only[Rep] at r ⊢
  obtain⟨a,e,q⟩:=r
  exact⟨a,e,h.seq q⟩
 |.tup ds,v,r=>by
  simp only[Rep] at r ⊢
  refine byc fun zG=>?_
  obtain⟨a,vs,e,q,t⟩:=r
  refine zG ?_
  exact⟨a,vs,e,Same.seqT h q,Reps.mono h t⟩
theorem Reps.mono(h:Same F F'):∀{ds:List D} {vs:List V},Reps K F ds vs→Reps K F' ds vs
 |[],_,r=>by simpa only[Reps] using r
 |d::ds,vs,r=>by
  simp only[Reps] at r ⊢
  refine byc fun zG=>?_
  obtain⟨v,r',e,q,t⟩:=r
  refine zG ?_
  exact⟨v,r',e,Rep.mono h q,Reps.mono h t⟩
end
theorem Reps.length:∀{ds:List D} {vs:List V},Reps K F ds vs→ds.length=vs.length
 |[],_,r=>by simp only[Reps] at r;subst r;rfl
 |d::ds,_,r=>by
  simp only[Reps] at r
  refine byc fun zG=>?_
  obtain⟨v,r',rfl,_,t⟩:=r
  refine zG ?_
  simp[Reps.length t]
theorem Reps.get:∀{ds:List D} {vs:List V} {i:Nat} {d:D},Reps K F ds vs→ds[i]?=some d→∃v,vs[i]?=some v∧Rep K F d v
 |[],_,_,_,_,e=>by simp at e
 |d::ds,_,0,_,r,e=>by
  simp only[Reps] at r
  refine byc fun zG=>?_
  obtain⟨v,r',rfl,q,t⟩:=r
  refine zG ?_
  simp at e;subst e
  exact⟨v,rfl,q⟩
 |d::ds,_,i+1,_,r,e=>by
  simp only[Reps] at r
  refine byc fun zG=>?_
  obtain⟨v,r',rfl,q,t⟩:=r
  obtain⟨w,h1,h2⟩:=Reps.get (i:=i) t (by simpa using e)
  refine zG ?_
  exact⟨w,by simpa using h1,h2⟩
theorem Reps.nil:Reps K F [] []:=by simp only[Reps]
theorem Reps.cons{d:D}{v:V}{ds:List D}{vs:List V}(h:Rep K F d v)(t:Reps K F ds vs):Reps K F (d::ds) (v::vs):=by
 simp only[Reps];exact⟨v,vs,rfl,h,t⟩
theorem Reps.append:∀{ds es:List D} {vs ws:List V},Reps K F ds vs→Reps K F es ws→Reps K F (ds++es) (vs++ws)
 |[],_,_,_,r,t=>by simp only[Reps] at r;subst r;exact t
 |d::ds,es,_,ws,r,t=>by
  simp only[Reps] at r
  refine byc fun zG=>?_
  obtain⟨v,r',rfl,q,u⟩:=r
  refine zG ?_
  exact Reps.cons q (Reps.append u t)
theorem Reps.take:∀{ds:List D} {vs:List V} (n:Nat),Reps K F ds vs→Reps K F (ds.take n) (vs.take n)
 |_,_,0,_=>by simp only[List.take_zero];exact Reps.nil
 |[],_,n+1,r=>by simp only[Reps] at r;subst r;simp only[List.take_nil];exact Reps.nil
 |d::ds,_,n+1,r=>by
  simp only[Reps] at r
  refine byc fun zG=>?_
  obtain⟨v,r',rfl,q,u⟩:=r
  refine zG ?_
  exact Reps.cons q (Reps.take n u)
theorem Reps.drop:∀{ds:List D} {vs:List V} (n:Nat),Reps K F ds vs→Reps K F (ds.drop n) (vs.drop n)
 |_,_,0,r=>r
 |[],_,n+1,r=>by simp only[Reps] at r;subst r;simp only[List.drop_nil];exact Reps.nil
 |d::ds,_,n+1,r=>by
  simp only[Reps] at r
  refine byc fun zG=>?_
  obtain⟨v,r',rfl,q,u⟩:=r
  refine zG ?_
  exact Reps.drop n u
theorem Reps.set{d:D}{v:V}(h:Rep K F d v):∀{ds:List D} {vs:List V} (i:Nat),Reps K F ds vs→Reps K F (ds.set i d) (vs.set i v)
 |[],_,_,r=>by simp only[Reps] at r;subst r;exact Reps.nil
 |e::ds,_,0,r=>by
  simp only[Reps] at r
  refine byc fun zG=>?_
  obtain⟨w,r',rfl,q,u⟩:=r
  refine zG ?_
  exact Reps.cons h u
 |e::ds,_,i+1,r=>by
  simp only[Reps] at r
  refine byc fun zG=>?_
  obtain⟨w,r',rfl,q,u⟩:=r
  refine zG ?_
  exact Reps.cons q (Reps.set h i u)
theorem Reps.one{d:D}{vs:List V}(h:Reps K F [d] vs):∃v,vs=[v]∧Rep K F d v:=by
 simp only[Reps] at h
 refine byc fun zG=>?_
 obtain⟨v,r,e,q,e2⟩:=h
 refine zG ?_
 subst e2;exact⟨v,e,q⟩
theorem Reps.two{d e:D}{vs:List V}(h:Reps K F [d,e] vs):∃v w,vs=[v,w]∧Rep K F d v∧Rep K F e w:=by
 simp only[Reps] at h
 refine byc fun zG=>?_
 obtain⟨v,r,e1,q,w,r2,e2,q2,e3⟩:=h
 refine zG ?_
 subst e3;subst e2;exact⟨v,w,e1,q,q2⟩
theorem Reps.rep{ds:List D}{vs:List V}(h:Reps K F ds vs):∀k:Nat,Reps K F (List.replicate k ds).flatten (List.replicate k vs).flatten:=by
 intro l_
 induction l_ with
 |zero=>
  exact Reps.nil
 |succ k ih_=>
  rw[replicate_succ,replicate_succ,flatten_cons,flatten_cons]
  exact Reps.append h (ih_)
theorem Reps.ints:∀(ns:List Int),Reps K F (ns.map D.int) (ns.map V.int):=by
 intro l_
 induction l_ with
 |nil=>
  exact Reps.nil
 |cons n r ih_=>
  exact Reps.cons (by simp only[Rep]) (ih_)
end
class Tabs where
 rows:List (Addr×Nat×Nat×Str)
 own:Str→Str→Bool
noncomputable def XM(c:Addr)(q:Str):Heap→Prop:=fun h=>h.CodeRec (.ref c) q
noncomputable def TOk(F H:Hp)(r:Addr×Nat×Nat×Str):Prop:=F r.1=none∧(H r.1=some (.tbl #[])∨∃c,H r.1=some (.tbl #[rawInt r.2.1,rawInt r.2.2.1,.ref c])∧H c=some (.ext (XM c r.2.2.2)))
variable[Tabs]
noncomputable def OwnOk(H:Hp):Prop:=∀d a,H d=some (.own a)→∃C dx vs,H a=some (.ins C dx vs)
noncomputable def TbT(F H:Hp):Prop:=(∀r∈Tabs.rows,TOk F H r)∧OwnOk H
omit [Tabs] in
theorem TOk.step{F H F' H':Hp}{r:Addr×Nat×Nat×Str}(t:TOk F H r)(nw:∀a o,F' a=some o→F a=some o∨H a=none)(k:∀a o,H a=some o→(∀vs,o≠.lst vs)→H' a=some o):TOk F' H' r:=by
 have hn:∀ps,H r.1=some (.tbl ps)→F' r.1=none:=fun ps e=>by
  cases q:F' r.1 with
  |none=>rfl
  |some o=>
   rcases nw _ _ q with z|z
   ·rw[t.1] at z;cases z
   ·rw[e] at z;cases z
 rcases t.2 with e|⟨c,e,e2⟩
 ·exact⟨hn _ e,.inl (k _ _ e fun _ z=>nomatch z)⟩
 ·exact⟨hn _ e,.inr ⟨c,k _ _ e (fun _ z=>nomatch z),k _ _ e2 fun _ z=>nomatch z⟩⟩
theorem TbT.step{F H F' H':Hp}(t:TbT F H)(nw:∀a o,F' a=some o→F a=some o∨H a=none)(k:∀a o,H a=some o→(∀vs,o≠.lst vs)→H' a=some o)(no:∀d a,H' d=some (.own a)→H d=some (.own a)):TbT F' H':=⟨fun r hr=>(t.1 r hr).step nw k,fun d a e=>by
 refine byc fun zG=>?_
 obtain⟨C,dx,vs,h⟩:=t.2 d a (no d a e)
 refine zG ?_
 exact⟨C,dx,vs,k _ _ h fun _ z=>nomatch z⟩⟩
theorem TbT.freeze{F H:Hp}{a:Addr}{vs:List V}{o:HO}(t:TbT F H)(e:H a=some (.lst vs)):TbT (upd F a o) H:=⟨fun r hr=>by
 obtain⟨t1,t2⟩:=t.1 r hr
 have:r.1≠a:=fun z=>by
  rw[z,e] at t2
  rcases t2 with q|⟨c,q,_⟩ <;> cases q
 exact⟨by rw[zr this];exact t1,t2⟩,t.2⟩
noncomputable def Kp:HO→Option HO→Prop
 |.tbl _,r=>∃ps,r=some (.tbl ps)
 |o,r=>r=some o
noncomputable def Hh(H H':Hp):Prop:=∀b o,H b=some o→Kp o (H' b)
omit [Tabs] in
theorem Kp.of{o:HO}{r:Option HO}(h:r=some o):Kp o r:=by cases o <;> first|exact h|exact⟨_,h⟩
omit [Tabs] in
theorem Kp.some{o:HO}{r:Option HO}(h:Kp o r):r≠none:=by
 cases o <;> first | (obtain⟨_,h⟩:=h;rw[h];simp) | (have h:r=_:=h;rw[h];simp)
omit [Tabs] in
theorem Hh.of{H H':Hp}(h:Same H H'):Hh H H':=fun b o e=>.of (h b o e)
omit [Tabs] in
theorem Hh.refl(H:Hp):Hh H H:=.of (Same.refl H)
omit [Tabs] in
theorem Hh.trans{H H1 H2:Hp}(a:Hh H H1)(b:Hh H1 H2):Hh H H2:=fun c o e=>by
 have k:=a c o e
 cases o <;> first|exact b c _ k | (obtain⟨ps,q⟩:=k;show ∃ps,H2 c=some (.tbl ps);exact b c _ q)
omit [Tabs] in
theorem xJ{F H:Hp}(h:Hh F H){a:Addr}(e:H a=none):F a=none:=by
 cases q:F a with
 |none=>rfl
 |some o=>exact absurd e (h a o q).some
structure Ext(F H F' H':Hp):Prop where
 ff:Same F F'
 hh:Hh H H'
 fh:Same F' H'
 nw:∀a o,F' a=some o→F a=some o∨H a=none
 tt:TbT F H→TbT F' H'
theorem Ext.refl{F H:Hp}(h:Same F H):Ext F H F H:=⟨Same.refl F,Hh.refl H,h,fun _ _ e=>.inl e,id⟩
theorem Ext.trans{F H F1 H1 F2 H2:Hp}(a:Ext F H F1 H1)(b:Ext F1 H1 F2 H2):Ext F H F2 H2:=
 ⟨a.ff.trans b.ff,a.hh.trans b.hh,b.fh,fun c o e=>by
  rcases b.nw c o e with q|q
  ·exact a.nw c o q
  ·exact .inr (xJ a.hh q),fun t=>b.tt (a.tt t)⟩
omit [Tabs] in
theorem zX{F H:Hp}(h:Same F H){a:Addr}(e:H a=none):F a=none:=by
 cases q:F a with
 |none=>rfl
 |some o=>rw[h a o q] at e;cases e
omit [Tabs] in
theorem yr{H:Hp}{p:Addr}{o:HO}(h:H p=none):Same H (upd H p o):=fun b u q=>by rw[zr (zR q h)];exact q
omit [Tabs] in
theorem Qe{F H:Hp}{p:Addr}{o:HO}(h:Same F H)(hp:H p=none):Same (upd F p o) (upd H p o):=fun b u q=>by
 by_cases hb:b=p
 ·subst hb;rw[zB] at q ⊢;exact q
 ·rw[zr hb] at q ⊢;exact h b u q
theorem Ext.same{F H F' H':Hp}(ff:Same F F')(hh:Same H H')(fh:Same F' H')(nw:∀a o,F' a=some o→F a=some o∨H a=none)(no:∀d a,H' d=some (.own a)→H d=some (.own a)):Ext F H F' H':=⟨ff,.of hh,fh,nw,fun t=>t.step nw (fun a o e _=>hh a o e) no⟩
omit [Tabs] in
theorem ux{H:Hp}{p:Addr}{o:HO}(ho:∀a,o≠.own a):∀d a,upd H p o d=some (.own a)→H d=some (.own a):=fun d a e=>by
 by_cases h:d=p
 ·subst h;rw[zB] at e;cases e;exact absurd rfl (ho a)
 ·rw[zr h] at e;exact e
theorem Ext.new{F H:Hp}{p:Addr}{o:HO}(h:Same F H)(hp:H p=none)(ho:∀a,o≠.own a:=by intro _ h;cases h):Ext F H (upd F p o) (upd H p o):=
 .same (yr (zX h hp)) (yr hp) (Qe h hp) (fun a u e=>by
  by_cases hb:a=p
  ·subst hb;exact .inr hp
  ·rw[zr hb] at e;exact .inl e) (ux ho)
theorem Ext.open{F H:Hp}{p:Addr}{o:HO}(h:Same F H)(hp:H p=none)(ho:∀a,o≠.own a:=by intro _ h;cases h):Ext F H F (upd H p o):=
 .same (Same.refl F) (yr hp) (h.trans (yr hp)) (fun a u e=>.inl e) (ux ho)
inductive Sl where
 | val (d:D)
 | own (ds:List D)
 | obj (n:Nat) (c:Str) (fs:List (Str×D))
 | obr (c:Str) (fs:List (Str×D))
noncomputable abbrev DS:=List (Option Sl)
noncomputable def OwnF(K:Frag)(F H:Hp)(d:D)(v:V):Prop:=∃ds l ws,d=.lst ds∧v=.ref l∧H l=some (.lst ws)∧F l=none∧Reps K F ds ws
noncomputable def ZK(K:Frag)(F H:Hp)(c f:Str)(d:D)(v:V):Prop:=if Tabs.own c f=true then OwnF K F H d v else Rep K F d v
noncomputable def Flds(K:Frag)(F H:Hp)(c:Str):List (Str×D)→List (Str×V)→Prop
 |[],[]=>True
 | (f,d)::r,(g,v)::s=>f=g∧ZK K F H c f d v∧Flds K F H c r s
 |_,_=>False
noncomputable def yM(c:Str):List (Str×V)→List Addr
 |[]=>[]
 | (f,v)::r=>if Tabs.own c f=true then (match v with
  |.ref l=>l::yM c r
  |_=>yM c r) else yM c r
noncomputable def Lof(H:Hp)(c:Str)(a:Addr):List Addr:=match H a with
 | some (.ins _ _ vs)=>yM c vs
 |_=>[]
theorem Lof.ins{H:Hp}{c:Str}{a C dx:Addr}{vs:List (Str×V)}(h:H a=some (.ins C dx vs)):Lof H c a=yM c vs:=by unfold Lof;rw[h]
theorem Flds.own{K:Frag}{F H:Hp}{c:Str}{l:Addr}:∀{fs:List (Str×D)} {vs:List (Str×V)},Flds K F H c fs vs→l∈yM c vs→F l=none∧∃ws,H l=some (.lst ws)
 |[],[],_,h=>by cases h
 | (f,d)::r,(g,v)::s,q,h=>by
  obtain⟨rfl,q2,q3⟩:=q
  unfold yM at h
  unfold ZK at q2
  by_cases z:Tabs.own c f=true
  ·rw[if_pos z] at h q2
   refine byc fun zG=>?_
   obtain⟨ds,l',ws,e1,rfl,e3,e4,e5⟩:=q2
   refine zG ?_
   rcases mem_cons.mp h with rfl|h
   ·exact⟨e4,ws,e3⟩
   ·exact Flds.own q3 h
  ·rw[if_neg z] at h
   exact Flds.own q3 h
 |[],_::_,q,_=>q.elim
 |_::_,[],q,_=>q.elim
theorem Flds.keep{K:Frag}{F H F' H':Hp}{c:Str}(hf:Same F F'):∀{fs:List (Str×D)} {vs:List (Str×V)},Flds K F H c fs vs→(∀l ws,l∈yM c vs→H l=some (.lst ws)→F l=none→H' l=some (.lst ws)∧F' l=none)→Flds K F' H' c fs vs
 |[],[],_,_=>trivial
 | (f,d)::r,(g,v)::s,q,k=>by
  obtain⟨rfl,q2,q3⟩:=q
  refine⟨rfl,?_,Flds.keep hf q3 fun l ws hl=>k l ws ?_⟩
  ·unfold ZK at q2 ⊢
   by_cases z:Tabs.own c f=true
   ·rw[if_pos z] at q2 ⊢
    refine byc fun zG=>?_
    obtain⟨ds,l,ws,e1,rfl,e3,e4,e5⟩:=q2
    obtain⟨k1,k2⟩:=k l ws (by unfold yM;rw[if_pos z];exact mem_cons_self) e3 e4
    refine zG ?_
    exact⟨ds,l,ws,e1,rfl,k1,k2,e5.mono hf⟩
   ·rw[if_neg z] at q2 ⊢;exact q2.mono hf
  ·unfold yM
   by_cases z:Tabs.own c f=true
   ·rw[if_pos z]
    cases v with
    |ref l'=>exact mem_cons_of_mem _ hl
    |_=>exact hl
   ·rw[if_neg z];exact hl
 |[],_::_,q,_=>q.elim
 |_::_,[],q,_=>q.elim
noncomputable def We(K:Frag)(F H:Hp)(c:Str)(fs:List (Str×D))(a:Addr):Prop:=∃C dx vs,H a=some (.ins C dx vs)∧F a=none∧nsIn K mainGlobals c=some (some (.ref C))∧Flds K F H c fs vs∧H dx=some (.own a)∧(yM c vs).Nodup
noncomputable def ObS(s:Option (Option Sl))(c:Str):Prop:=(∃n fs,s=some (some (.obj n c fs)))∨∃fs,s=some (some (.obr c fs))
structure ObsOk(K:Frag)(F:Hp)(τ:DS)(σ:St)(H:Hp):Prop where
 at_:∀(i n:Nat) (c:Str) (fs:List (Str×D)),τ[i]?=some (some (.obj n c fs))→∃a,σ[i]?=some (some (.ref a))∧We K F H c fs a
 dis:∀(i j n:Nat) (c c':Str) (fs:List (Str×D)) (a:Addr),i≠j→τ[i]?=some (some (.obj n c fs))→ObS τ[j]? c'→σ[i]?=some (some (.ref a))→σ[j]?=some (some (.ref a))→False
 rd:∀(i:Nat) (c:Str) (fs:List (Str×D)),τ[i]?=some (some (.obr c fs))→∃a C dx vs,σ[i]?=some (some (.ref a))∧H a=some (.ins C dx vs)∧nsIn K mainGlobals c=some (some (.ref C))∧Flds K F H c fs vs
 ll:∀(i j n:Nat) (c c':Str) (fs:List (Str×D)) (a a' l:Addr),i≠j→τ[i]?=some (some (.obj n c fs))→ObS τ[j]? c'→σ[i]?=some (some (.ref a))→σ[j]?=some (some (.ref a'))→l∈Lof H c a→l∈Lof H c' a'→False
 lo:∀(i j:Nat) (c:Str) (ds:List D) (a l:Addr),ObS τ[i]? c→τ[j]?=some (some (.own ds))→σ[i]?=some (some (.ref a))→σ[j]?=some (some (.ref l))→l∈Lof H c a→False
noncomputable def Vm:Option Sl→Bool
 | some (.obj _ _ _)=>true
 | some (.obr _ _)=>true
 |_=>false
noncomputable def noObj(τ:DS):Prop:=∀(i:Nat) s,τ[i]?=some s→Vm s=false
omit [Tabs] in
theorem noObj.obs{τ:DS}(n:noObj τ){i:Nat}{c:Str}(h:ObS τ[i]? c):False:=by
 rcases h with ⟨m,fs,h⟩|⟨fs,h⟩
 ·have:=n i _ h;cases this
 ·have:=n i _ h;cases this
theorem ObsOk.none{K:Frag}{F H:Hp}{τ:DS}{σ:St}(n:noObj τ):ObsOk K F τ σ H:=
 ⟨fun i m c fs h=>(by have:=n i _ h;cases this),fun i j m c c' fs a _ h=>(by have:=n i _ h;cases this),fun i c fs h=>(by have:=n i _ h;cases this),fun i j m c c' fs a a' l _ h=>(by have:=n i _ h;cases this),fun i j c ds a l h=>(n.obs h).elim⟩
theorem ObsOk.get{K:Frag}{F H:Hp}{τ:DS}{σ:St}{i:Nat}{c:Str}(o:ObsOk K F τ σ H)(h:ObS τ[i]? c):∃a C dx vs fs,σ[i]?=some (some (.ref a))∧H a=some (.ins C dx vs)∧Flds K F H c fs vs:=by
 rcases h with ⟨m,fs,h⟩|⟨fs,h⟩
 ·refine byc fun zG=>?_
  obtain⟨a,h1,C,dx,vs,h2,_,_,h5,_⟩:=o.at_ i m c fs h
  refine zG ?_
  exact⟨a,C,dx,vs,fs,h1,h2,h5⟩
 ·refine byc fun zG=>?_
  obtain⟨a,C,dx,vs,h1,h2,_,h5⟩:=o.rd i c fs h
  refine zG ?_
  exact⟨a,C,dx,vs,fs,h1,h2,h5⟩
theorem ObsOk.keep{K:Frag}{F H F' H':Hp}{τ:DS}{σ:St}(o:ObsOk K F τ σ H)(hf:Same F F')(hi:∀a C dx vs,H a=some (.ins C dx vs)→H' a=some (.ins C dx vs))(hn:∀a C dx vs,H a=some (.ins C dx vs)→F a=Option.none→F' a=Option.none)(hd:∀d a,H d=some (.own a)→H' d=some (.own a))
  (hl:∀(i:Nat) (c:Str) (a l:Addr) (ws:List V),ObS τ[i]? c→σ[i]?=some (some (.ref a))→l∈Lof H c a→H l=some (.lst ws)→F l=Option.none→H' l=some (.lst ws)∧F' l=Option.none):ObsOk K F' τ σ H':=by
 have lof:∀{i:Nat} {c:Str} {a:Addr},ObS τ[i]? c→σ[i]?=some (some (.ref a))→Lof H' c a=Lof H c a:=fun {i c a} h e=>by
  refine byc fun zG=>?_
  obtain⟨a',C,dx,vs,fs,h1,h2,_⟩:=o.get h
  refine zG ?_
  rw[e] at h1;cases h1
  rw[Lof.ins h2,Lof.ins (hi _ _ _ _ h2)]
 refine⟨fun i m c fs h=>?_,o.dis,fun i c fs h=>?_,fun i j m c c' fs a a' l hij h1 h2 h3 h4 h5 h6=>?_,fun i j c ds a l h1 h2 h3 h4 h5=>?_⟩
 ·refine byc fun zG=>?_
  obtain⟨a,h1,C,dx,vs,h2,h3,h4,h5,h6,h7⟩:=o.at_ i m c fs h
  refine zG ?_
  exact⟨a,h1,C,dx,vs,hi _ _ _ _ h2,hn _ _ _ _ h2 h3,h4,h5.keep hf fun l ws q=>hl i c a l ws (.inl ⟨m,fs,h⟩) h1 (by rw[Lof.ins h2];exact q),hd _ _ h6,h7⟩
 ·refine byc fun zG=>?_
  obtain⟨a,C,dx,vs,h1,h2,h4,h5⟩:=o.rd i c fs h
  refine zG ?_
  exact⟨a,C,dx,vs,h1,hi _ _ _ _ h2,h4,h5.keep hf fun l ws q=>hl i c a l ws (.inr ⟨fs,h⟩) h1 (by rw[Lof.ins h2];exact q)⟩
 ·rw[lof (.inl ⟨m,fs,h1⟩) h3] at h5
  rw[lof h2 h4] at h6
  exact o.ll i j m c c' fs a a' l hij h1 h2 h3 h4 h5 h6
 ·rw[lof h1 h3] at h5
  exact o.lo i j c ds a l h1 h2 h3 h4 h5
theorem ObsOk.ext{K:Frag}{F H F' H':Hp}{τ:DS}{σ:St}(o:ObsOk K F τ σ H)(x:Ext F H F' H'):ObsOk K F' τ σ H':=by
 have nF:∀{a:Addr} {u:HO},H a=some u→F a=Option.none→F' a=Option.none:=fun {a u} h h3=>by
  cases q:F' a with
  |none=>rfl
  |some w=>
   rcases x.nw a w q with z|z
   ·rw[h3] at z;cases z
   ·rw[h] at z;cases z
 exact o.keep x.ff (fun a C dx vs h=>x.hh _ _ h) (fun a C dx vs h=>nF h) (fun d a h=>x.hh _ _ h) fun i c a l ws _ _ _ h h3=>⟨x.hh _ _ h,nF h h3⟩
theorem ObsOk.updL{K:Frag}{F H:Hp}{τ:DS}{σ:St}{p:Addr}{u:HO}(o:ObsOk K F τ σ H)(hl:H p=.none∨∃vs,H p=some (.lst vs))(hp:∀(i:Nat) (c:Str) (a:Addr),ObS τ[i]? c→σ[i]?=some (some (.ref a))→p∉Lof H c a):ObsOk K F τ σ (upd H p u):=by
 have ne:∀{a:Addr} {w:HO},H a=some w→(∀vs,w≠.lst vs)→a≠p:=fun {a w} h n z=>by
  subst z
  rcases hl with z|⟨ws,z⟩
  ·rw[z] at h;cases h
  ·rw[z] at h;cases h;exact n _ rfl
 refine o.keep (Same.refl F) (fun a C dx vs h=>?_) (fun a C dx vs _ h=>h) (fun d a h=>?_) fun i c a l ws h1 h2 h3 h4 h5=>⟨?_,h5⟩
 ·rw[zr (ne h fun _ z=>nomatch z)];exact h
 ·rw[zr (ne h fun _ z=>nomatch z)];exact h
 ·have:l≠p:=fun z=>by subst z;exact hp i c a h1 h2 h3
  rw[zr this];exact h4
omit [Tabs] in
theorem yS{τ:DS}{i j:Nat}{s u:Option Sl}(hs:Vm s=false)(hu:Vm u=true)(h:(τ.set i s)[j]?=some u):i≠j∧τ[j]?=some u:=by
 by_cases hij:i=j
 ·subst hij
  rw[getElem?_set] at h
  simp only[if_true] at h
  split at h
  ·cases h;rw[hs] at hu;cases hu
  ·cases h
 ·rw[getElem?_set_ne hij] at h;exact⟨hij,h⟩
omit [Tabs] in
theorem jo{τ:DS}{i j:Nat}{s:Option Sl}{c:Str}(hs:Vm s=false)(h:ObS (τ.set i s)[j]? c):i≠j∧ObS τ[j]? c:=by
 rcases h with ⟨n,fs,h⟩|⟨fs,h⟩
 ·obtain⟨a,b⟩:=yS hs rfl h;exact⟨a,.inl ⟨n,fs,b⟩⟩
 ·obtain⟨a,b⟩:=yS hs rfl h;exact⟨a,.inr ⟨fs,b⟩⟩
theorem ObsOk.put{K:Frag}{F H:Hp}{τ:DS}{σ:St}{i:Nat}{s:Option Sl}{v:Option V}(o:ObsOk K F τ σ H)(hs:Vm s=false)(hw:∀ds l,s=some (.own ds)→v=some (.ref l)→∀(j:Nat) (c:Str) (a:Addr),ObS τ[j]? c→σ[j]?=some (some (.ref a))→l∉Lof H c a):ObsOk K F (τ.set i s) (σ.set i v) H:=
 ⟨fun j m c fs h=>by
  obtain⟨n,h⟩:=yS hs rfl h
  rw[getElem?_set_ne n];exact o.at_ j m c fs h,
  fun j k m c c' fs a hjk h1 h2 h3 h4=>by
   obtain⟨n1,h1⟩:=yS hs rfl h1
   obtain⟨n2,h2⟩:=jo hs h2
   rw[getElem?_set_ne n1] at h3
   rw[getElem?_set_ne n2] at h4
   exact o.dis j k m c c' fs a hjk h1 h2 h3 h4,
  fun j c fs h=>by
   obtain⟨n,h⟩:=yS hs rfl h
   rw[getElem?_set_ne n];exact o.rd j c fs h,
  fun j k m c c' fs a a' l hjk h1 h2 h3 h4=>by
   obtain⟨n1,h1⟩:=yS hs rfl h1
   obtain⟨n2,h2⟩:=jo hs h2
   rw[getElem?_set_ne n1] at h3
   rw[getElem?_set_ne n2] at h4
   exact o.ll j k m c c' fs a a' l hjk h1 h2 h3 h4,
  fun j k c ds a l h1 h2 h3 h4 h5=>by
   obtain⟨n1,g1⟩:=jo hs h1
   rw[getElem?_set_ne n1] at h3
   by_cases e:i=k
   ·subst e
    rw[getElem?_set] at h2 h4
    simp only[if_true] at h2 h4
    split at h2
    ·split at h4
     ·exact hw ds l (by simpa using h2) (by simpa using h4) j c a g1 h3 h5
     ·cases h4
    ·cases h2
   ·rw[getElem?_set_ne e] at h2 h4
    exact o.lo j k c ds a l g1 h2 h3 h4 h5⟩
theorem ObsOk.putS{K:Frag}{F H:Hp}{τ:DS}{σ:St}{i:Nat}{ds es:List D}(o:ObsOk K F τ σ H)(hi:τ[i]?=some (some (.own ds))):ObsOk K F (τ.set i (some (.own es))) σ H:=
 ⟨fun j m c fs h=>o.at_ j m c fs (yS (s:=some (.own es)) rfl rfl h).2,fun j k m c c' fs a hjk h1 h2=>o.dis j k m c c' fs a hjk (yS (s:=some (.own es)) rfl rfl h1).2 (jo (s:=some (.own es)) rfl h2).2,fun j c fs h=>o.rd j c fs (yS (s:=some (.own es)) rfl rfl h).2,
  fun j k m c c' fs a a' l hjk h1 h2=>o.ll j k m c c' fs a a' l hjk (yS (s:=some (.own es)) rfl rfl h1).2 (jo (s:=some (.own es)) rfl h2).2,fun j k c ds' a l h1 h2 h3 h4 h5=>by
   have h1:=(jo (s:=some (.own es)) rfl h1).2
   by_cases e:i=k
   ·subst e;exact o.lo j i c ds a l h1 hi h3 h4 h5
   ·rw[getElem?_set_ne e] at h2;exact o.lo j k c ds' a l h1 h2 h3 h4 h5⟩
theorem ObsOk.fresh{K:Frag}{F H:Hp}{τ:DS}{σ:St}{p:Addr}(o:ObsOk K F τ σ H)(hp:H p=.none):∀(i:Nat) (c:Str) (a:Addr),ObS τ[i]? c→σ[i]?=some (some (.ref a))→p∉Lof H c a:=fun i c a h e hl=>by
 refine byc fun zG=>?_
 obtain⟨a',C,dx,vs,fs,h1,h2,h3⟩:=o.get h
 refine zG ?_
 rw[e] at h1;cases h1
 rw[Lof.ins h2] at hl
 obtain⟨_,ws,q⟩:=h3.own hl
 rw[hp] at q;cases q
theorem ObsOk.lof{K:Frag}{F H:Hp}{τ:DS}{σ:St}{i:Nat}{c:Str}{a p:Addr}{u:HO}(o:ObsOk K F τ σ H)(h1:ObS τ[i]? c)(h2:σ[i]?=some (some (.ref a)))(hl:H p=.none∨∃vs,H p=some (.lst vs)):Lof (upd H p u) c a=Lof H c a:=by
 refine byc fun zG=>?_
 obtain⟨a',C,dx,vs,fs,h3,h4,_⟩:=o.get h1
 refine zG ?_
 rw[h2] at h3;cases h3
 have:a≠p:=fun z=>by
  subst z
  rcases hl with z|⟨ws,z⟩
  ·rw[z] at h4;cases h4
  ·rw[z] at h4;cases h4
 rw[Lof.ins h4,Lof.ins (show upd H p u a=some (.ins C dx vs) by rw[zr this];exact h4)]
structure RV(K:Frag)(F:Hp)(τ:DS)(σ:St)(H:Hp):Prop where
 fh:Same F H
 len:τ.length=σ.length
 val:∀(i:Nat) (d:D),τ[i]?=some (some (.val d))→∃v,σ[i]?=some (some v)∧Rep K F d v
 own:∀(i:Nat) (ds:List D),τ[i]?=some (some (.own ds))→∃a vs,σ[i]?=some (some (.ref a))∧H a=some (.lst vs)∧F a=none∧Reps K F ds vs
 dis:∀(i j:Nat) (ds es:List D) (a:Addr),i≠j→τ[i]?=some (some (.own ds))→τ[j]?=some (some (.own es))→σ[i]?=some (some (.ref a))→σ[j]?=some (some (.ref a))→False
 tt:TbT F H
 ob:ObsOk K F τ σ H
theorem RV.ext{K:Frag}{F H F' H':Hp}{τ:DS}{σ:St}(R:RV K F τ σ H)(x:Ext F H F' H'):RV K F' τ σ H':=
 ⟨x.fh,R.len,fun i d e=>by
  obtain⟨v,h1,h2⟩:=R.val i d e
  exact⟨v,h1,h2.mono x.ff⟩,
  fun i ds e=>by
   refine byc fun zG=>?_
   obtain⟨a,vs,h1,h2,h3,h4⟩:=R.own i ds e
   refine zG ?_
   refine⟨a,vs,h1,x.hh _ _ h2,?_,h4.mono x.ff⟩
   cases q:F' a with
   |none=>rfl
   |some o=>
    rcases x.nw a o q with z|z
    ·rw[h3] at z;cases z
    ·rw[h2] at z;exact absurd z (by simp),
  R.dis,x.tt R.tt,R.ob.ext x⟩
structure RS(K:Frag)(B Z F:Hp)(τ:DS)(σ:St)(H:Hp):Prop where
 rv:RV K F τ σ H
 bh:Hh B H
 zf:Same Z F
 nb:∀a o,F a=some o→Z a=some o∨B a=none
 ob:∀(i:Nat) (ds:List D) (a:Addr),τ[i]?=some (some (.own ds))→σ[i]?=some (some (.ref a))→B a=none
 oo:∀(i n:Nat) (c:Str) (fs:List (Str×D)) (a:Addr),τ[i]?=some (some (.obj n c fs))→σ[i]?=some (some (.ref a))→B a=none∧∀l∈Lof H c a,B l=none
 sf:∀(a0 dx:Addr),B dx=some (.own a0)→B a0=none→∀(i n:Nat) (c:Str) (fs:List (Str×D)),τ[i]?=some (some (.obj (n+1) c fs))→σ[i]?=some (some (.ref a0))
 ro:∀(i:Nat) (c:Str) (fs:List (Str×D)) (a:Addr),τ[i]?=some (some (.obr c fs))→σ[i]?=some (some (.ref a))→∃C dx vs,B a=some (.ins C dx vs)∧∀l∈yM c vs,∃ws,B l=some (.lst ws)
theorem RS.ext{K:Frag}{B Z F H F' H':Hp}{τ:DS}{σ:St}(R:RS K B Z F τ σ H)(x:Ext F H F' H'):RS K B Z F' τ σ H':=
 ⟨R.rv.ext x,R.bh.trans x.hh,R.zf.trans x.ff,fun a o e=>by
  rcases x.nw a o e with q|q
  ·exact R.nb a o q
  ·exact .inr (xJ R.bh q),R.ob,fun i n c fs a h1 h2=>by
  obtain⟨q1,q2⟩:=R.oo i n c fs a h1 h2
  refine⟨q1,fun l hl=>q2 l ?_⟩
  refine byc fun zG=>?_
  obtain⟨a',h3,C,dx,vs,h4,_⟩:=R.rv.ob.at_ i n c fs h1
  refine zG ?_
  rw[h2] at h3;cases h3
  rw[Lof.ins h4]
  rw[Lof.ins (x.hh _ _ h4:H' a=some (.ins C dx vs))] at hl
  exact hl,R.sf,R.ro⟩
theorem RS.out{K:Frag}{B Z F H:Hp}{τ:DS}{σ:St}(R:RS K B Z F τ σ H):Ext Z B F H:=⟨R.zf,R.bh,R.rv.fh,R.nb,fun _=>R.rv.tt⟩
noncomputable def Xob(X:Cx)(c:Str):Prop:=∀e s',X.xe e s'
noncomputable def Ok(X:Cx){α:Type}(r:Rs α)(P:α→Prop):Prop:=match r with
 |.ok a=>P a
 |.ex c=>Xob X c
 |.no=>False
theorem Ok.bind{X:Cx}{α β:Type}{r:Rs α}{k:α→Rs β}{P:β→Prop}(h:Ok X (r.bind k) P):Ok X r fun a=>Ok X (k a) P:=by
 cases r <;> exact h
theorem Ok.imp{X:Cx}{α:Type}{r:Rs α}{P Q:α→Prop}(h:Ok X r P)(f:∀a,P a→Q a):Ok X r Q:=by
 cases r with
 |ok a=>exact f a h
 |ex c=>exact h
 |no=>exact h
noncomputable abbrev FE:=DS→Rs D
noncomputable abbrev FA:=DS→Rs (List D)
noncomputable abbrev FT:=DS→Rs Bool
noncomputable def Ev(K:Frag)(F H:Hp)(Q:VK)(d:D):Prop:=∀v F' H',Ext F H F' H'→Rep K F' d v→Q v H'
noncomputable def Evs(K:Frag)(F H:Hp)(Q:List V→Hp→Prop)(ds:List D):Prop:=∀vs F' H',Ext F H F' H'→Reps K F' ds vs→Q vs H'
noncomputable def Evb(F H:Hp)(Q:Bool→Hp→Prop)(b:Bool):Prop:=∀F' H',Ext F H F' H'→Q b H'
theorem Ev.ext{K:Frag}{F H F1 H1:Hp}{Q:VK}{d:D}(h:Ev K F H Q d)(x:Ext F H F1 H1):Ev K F1 H1 Q d:=fun v F' H' y r=>h v F' H' (x.trans y) r
theorem Evb.ext{F H F1 H1:Hp}{Q:Bool→Hp→Prop}{d:Bool}(h:Evb F H Q d)(x:Ext F H F1 H1):Evb F1 H1 Q d:=fun F' H' y=>h F' H' (x.trans y)
noncomputable def tE(X:Cx)(f:FE):TE:=fun σ H Q=>∃F τ,RV X.K F τ σ H∧Ok X (f τ) (Ev X.K F H Q)
noncomputable def tAs(X:Cx)(f:FA):TA:=fun σ H Q=>∃F τ,RV X.K F τ σ H∧Ok X (f τ) (Evs X.K F H Q)
noncomputable def tTs(X:Cx)(f:FT):TT:=fun σ H Q=>∃F τ,RV X.K F τ σ H∧Ok X (f τ) (Evb F H Q)
noncomputable def PDE(X:Cx)(e:Expr)(f:FE):Prop:=PE X e (tE X f)
noncomputable def PDA(X:Cx)(e:List Expr)(f:FA):Prop:=PA X e (tAs X f)
noncomputable def PDT(X:Cx)(e:Expr)(f:FT):Prop:=PT X e (tTs X f)
noncomputable def PDW(X:Cx)(e:Expr)(f:FT):Prop:=PW X e (tTs X f)
theorem _root_.L2.PE.imp{X:Cx}{e:Expr}{t t':TE}(h:PE X e t)(f:∀σ H Q,t' σ H Q→t σ H Q):PE X e t':=fun pins s σ H Q I q=>h pins s σ H Q I (f _ _ _ q)
theorem _root_.L2.PT.imp{X:Cx}{e:Expr}{t t':TT}(h:PT X e t)(f:∀σ H Q,t' σ H Q→t σ H Q):PT X e t':=fun pins s σ H Q I q=>h pins s σ H Q I (f _ _ _ q)
theorem _root_.L2.PW.imp{X:Cx}{e:Expr}{t t':TT}(h:PW X e t)(f:∀σ H Q,t' σ H Q→t σ H Q):PW X e t':=fun w pins s σ H Q I q=>h w pins s σ H Q I (f _ _ _ q)
theorem _root_.L2.PA.imp{X:Cx}{e:List Expr}{t t':TA}(h:PA X e t)(f:∀σ H Q,t' σ H Q→t σ H Q):PA X e t':=fun p pins s σ H Q I q=>h p pins s σ H Q I (f _ _ _ q)
theorem _root_.L2.PS.imp{X:Cx}{e:Stmt}{t t':TS}(h:PS X e t)(f:∀E σ H,t' E σ H→t E σ H):PS X e t':=fun pins s σ H Q I q=>h pins s σ H Q I (f _ _ _ q)
theorem _root_.L2.PSs.imp{X:Cx}{e:List Stmt}{t t':TS}(h:PSs X e t)(f:∀E σ H,t' E σ H→t E σ H):PSs X e t':=fun pins s σ H Q I q=>h pins s σ H Q I (f _ _ _ q)
theorem tE.of{X:Cx}{f:FE}{F H:Hp}{τ:DS}{σ:St}{Q:VK}{G:D→Prop}(R:RV X.K F τ σ H)(h:Ok X (f τ) G)
  (k:∀d v F1 H1,G d→Ext F H F1 H1→RV X.K F1 τ σ H1→Rep X.K F1 d v→Q v H1):tE X f σ H Q:=
 ⟨F,τ,R,h.imp fun d g v F1 H1 x r=>k d v F1 H1 g x (R.ext x) r⟩
theorem tAs.of{X:Cx}{f:FA}{F H:Hp}{τ:DS}{σ:St}{Q:List V→Hp→Prop}{G:List D→Prop}(R:RV X.K F τ σ H)(h:Ok X (f τ) G)
  (k:∀d v F1 H1,G d→Ext F H F1 H1→RV X.K F1 τ σ H1→Reps X.K F1 d v→Q v H1):tAs X f σ H Q:=
 ⟨F,τ,R,h.imp fun d g v F1 H1 x r=>k d v F1 H1 g x (R.ext x) r⟩
theorem tTs.of{X:Cx}{f:FT}{F H:Hp}{τ:DS}{σ:St}{Q:Bool→Hp→Prop}{G:Bool→Prop}(R:RV X.K F τ σ H)(h:Ok X (f τ) G)
  (k:∀b F1 H1,G b→Ext F H F1 H1→RV X.K F1 τ σ H1→Q b H1):tTs X f σ H Q:=
 ⟨F,τ,R,h.imp fun d g F1 H1 x=>k d F1 H1 g x (R.ext x)⟩
noncomputable def ze(i:Nat):FE:=fun τ=>match τ[i]? with
 | some (some (.val d))=>.ok d
 |_=>.no
section
variable{X:Cx}{pos:Pos}
theorem zc{i:Nat}{x:Str}(h:PE X (.Name x pos) (wN i)):PDE X (.Name x pos) (ze i):=h.imp fun σ H Q z_=>by
 refine byc fun zG=>?_
 obtain⟨F,τ,R,q⟩:=z_
 refine zG ?_
 unfold ze at q
 cases e:τ[i]? with
 |none=>rw[e] at q;exact q.elim
 |some o=>
  cases o with
  |none=>rw[e] at q;exact q.elim
  |some sl=>
   cases sl with
   |own ds=>rw[e] at q;exact q.elim
   |obj n c fs=>rw[e] at q;exact q.elim
   |obr c fs=>rw[e] at q;exact q.elim
   |val d=>
    rw[e] at q
    obtain⟨v,h1,h2⟩:=R.val i d e
    exact⟨v,h1,q v F H (Ext.refl R.fh) h2⟩
noncomputable def eC(d:D):FE:=fun _=>.ok d
theorem V0{e:Expr}{v:V}{d:D}(h:PE X e (tC v))(r:∀F,Rep X.K F d v):PDE X e (eC d):=h.imp fun σ H Q z_=>by obtain⟨F,τ,R,q⟩:=z_;exact q v F H (Ext.refl R.fh) (r F)
theorem zm{i j}:PDE X (.Constant (.int i) j pos) (eC (.int i)):=V0 zc6 fun _=>by simp only[Rep]
theorem vJ{i j}:PDE X (.Constant (.bool i) j pos) (eC (.bl i)):=V0 pe_bl fun _=>by simp only[Rep]
theorem YA{j}:PDE X (.Constant .none j pos) (eC .non):=V0 zc5 fun _=>by simp only[Rep]
theorem wS{i j}:PDE X (.Constant (.str i) j pos) (eC (.str i)):=V0 zc3 fun _=>by simp only[Rep]
end
noncomputable def OpD(X:Cx)(g:Value→Value→Sem Value)(op:D→D→Rs D):Prop:=∃r:R2,OpR X g r ∧
 ∀F H x y dx dy Q,Same F H→Rep X.K F dx x→Rep X.K F dy y→Ok X (op dx dy) (Ev X.K F H Q)→r x y H Q
noncomputable def eOp(op:D→D→Rs D)(fa fb:FE):FE:=fun τ=>(fa τ).bind fun x=>(fb τ).bind fun y=>op x y
section
variable{X:Cx}{pos:Pos}{a b c:Expr}{fa fb fc:FE}
theorem JC{r:R2}{op:D→D→Rs D}(hl:∀F H x y dx dy Q,Same F H→Rep X.K F dx x→Rep X.K F dy y→Ok X (op dx dy) (Ev X.K F H Q)→r x y H Q)
  (σ:St) (H:Hp) (Q:VK) (h:tE X (eOp op fa fb) σ H Q):tOp r (tE X fa) (tE X fb) σ H Q:=by
 refine byc fun zG=>?_
 obtain⟨F,τ,R,h⟩:=h
 refine zG ?_
 refine tE.of R h.bind fun x u F1 H1 g x1 R1 r1=>?_
 refine tE.of R1 g.bind fun y v F2 H2 g2 x2 R2 r2=>?_
 exact hl F2 H2 u v x y Q R2.fh (r1.mono x2.ff) r2 (g2.imp fun d e=>e.ext (x1.trans x2))
theorem zx{o:Operator}{op:D→D→Rs D}(ho:OpD X (binaryOp o) op)(ha:PDE X a fa)(hb:PDE X b fb):PDE X (.BinOp a o b pos) (eOp op fa fb):=by
 obtain⟨r,h1,h2⟩:=ho
 exact(pe_op h1 ha hb).imp (JC h2)
theorem vV{o:CmpOp}{op:D→D→Rs D}(ho:OpD X (compareOp o) op)(ha:PDE X a fa)(hb:PDE X b fb)(hm:behindInMarks o b=false):PDE X (.Compare a [o] [b] pos) (eOp op fa fb):=by
 obtain⟨r,h1,h2⟩:=ho
 exact(TX h1 ha hb hm).imp (JC h2)
noncomputable def tB(f:FE):FT:=fun τ=>(f τ).bind fun d=>match d with
 |.bl b=>.ok b
 |_=>.no
theorem Tb{t:FE}{u:TE}(hi:∀σ H Q,tE X t σ H Q→u σ H Q)(σ:St)(H:Hp)(Q:Bool→Hp→Prop)(h:tTs X (tB t) σ H Q):LR u σ H Q:=by
 refine byc fun zG=>?_
 obtain⟨F,τ,R,h⟩:=h
 refine zG ?_
 refine hi σ H _ (tE.of R h.bind fun d v F1 H1 g x R1 r=>?_)
 cases d with
 |bl k=>simp only[Rep] at r;exact⟨k,r,g F1 H1 x⟩
 |_=>exact g.elim
theorem zN{o:CmpOp}{op:D→D→Rs D}(ho:OpD X (compareOp o) op)(ha:PDE X a fa)(hb:PDE X b fb)(hm:behindInMarks o b=false):PDT X (.Compare a [o] [b] pos) (tB (eOp op fa fb)):=by
 obtain⟨r,h1,h2⟩:=ho
 exact(WX h1 ha hb hm).imp (Tb (JC h2))
noncomputable def ZL:D→Rs Bool
 |.non=>.ok false
 |.bl b=>.ok b
 |.int i=>.ok (i != 0)
 |.str x=>if x.length≤sizeLine then .ok ((x.length:Int) != 0) else .no
 |.lst ds=>.ok (!ds.isEmpty)
 |.tup ds=>.ok (!ds.isEmpty)
 |.scr ns=>.ok (!ns.isEmpty)
 |.raw _=>.no
 |.exc _=>.no
 |.dct _ _=>.no
theorem Zz{K:Frag}{F:Hp}{ds:List D}{vs:List V}(h:Reps K F ds vs):ds.isEmpty=vs.isEmpty:=by
 have:=h.length
 cases ds <;> cases vs <;> simp_all
theorem Uy{F H:Hp}{d:D}{v:V}{Q:Bool→Hp→Prop}(fh:Same F H)(r:Rep X.K F d v)(h:Ok X (ZL d) (fun b=>Q b H)):∃k,zi0 X.K v H k∧Q k H:=by
 cases d with
 |non=>simp only[Rep] at r;subst r;exact⟨_,rfl,h⟩
 |bl b=>simp only[Rep] at r;subst r;exact⟨_,rfl,h⟩
 |int i=>simp only[Rep] at r;subst r;exact⟨_,rfl,h⟩
 |str x=>
  simp only[Rep] at r;subst r
  (delta ZL at h;dsimp only at h)
  by_cases z:x.length≤sizeLine
  ·rw[if_pos z] at h;exact⟨_,⟨z,rfl⟩,h⟩
  ·rw[if_neg z] at h;exact h.elim
 |lst ds=>
  simp only[Rep] at r;obtain⟨a,vs,rfl,e,q⟩:=r
  refine⟨!vs.isEmpty,.inl ⟨vs,SqL.of (fh _ _ e),rfl⟩,?_⟩
  rw[← Zz q];exact h
 |tup ds=>
  simp only[Rep] at r;obtain⟨a,vs,rfl,e,q⟩:=r
  refine⟨!vs.isEmpty,.inr (.inl ⟨vs,Same.seqT fh e,rfl⟩),?_⟩
  rw[← Zz q];exact h
 |scr ns=>
  simp only[Rep] at r;obtain⟨a,rfl,e⟩:=r
  refine⟨!(ns.map V.int).isEmpty,.inl ⟨_,fh.seq e,rfl⟩,?_⟩
  have e2:(ns.map V.int).isEmpty=ns.isEmpty:=by cases ns <;> rfl
  rw[e2];exact h
 |raw u=>exact h.elim
 |exc c=>exact h.elim
 |dct _ _=>exact h.elim
noncomputable def jP(f:FE):FT:=fun τ=>(f τ).bind ZL
theorem Zl(ha:PDE X a fa)(he:∀whole,isTrue a X.env whole=(do let v ← whole;standAt a.pos;holding [v] (truthy v)):=by intro _;rfl):PDT X a (jP fa):=
 (Gq ha he).imp fun σ H Q z_=>by obtain⟨F,τ,R,h⟩:=z_;exact tE.of R h.bind fun d v F1 H1 g x R1 r=>Uy R1.fh r (g.imp fun b e=>e F1 H1 x)
noncomputable def vm(f g:FT):FT:=fun τ=>(f τ).bind fun b=>if b=true then g τ else .ok false
noncomputable def YO(f g:FT):FT:=fun τ=>(f τ).bind fun b=>if b=true then .ok true else g τ
noncomputable def VL(f:FT):FT:=fun τ=>(f τ).bind fun b=>.ok (!b)
variable{ga gb:FT}{rest:List Expr}
theorem uZ(ha:PDT X a ga):PDW X (.BoolOp .And [a] pos) ga:=TC ha
theorem Yw(ha:PDT X a ga):PDW X (.BoolOp .Or [a] pos) ga:=Go ha
theorem Zi(ha:PDT X a ga)(hb:PDW X (.BoolOp .And (b::rest) pos) gb):PDW X (.BoolOp .And (a::b::rest) pos) (vm ga gb):=
 PW.imp (zb3 ha hb) fun σ H Q z_=>by
  refine byc fun zG=>?_
  obtain⟨F,τ,R,h⟩:=z_
  refine zG ?_
  refine tTs.of R h.bind fun k F1 H1 g x R1=>?_
  cases k with
  |true=>rw[if_pos rfl];rw[if_pos rfl] at g;exact⟨F1,τ,R1,g.imp fun d e=>e.ext x⟩
  |false=>rw[if_neg (by simp)];rw[if_neg (by simp)] at g;exact g F1 H1 x
theorem W1(ha:PDT X a ga)(hb:PDW X (.BoolOp .Or (b::rest) pos) gb):PDW X (.BoolOp .Or (a::b::rest) pos) (YO ga gb):=
 PW.imp (LV ha hb) fun σ H Q z_=>by
  refine byc fun zG=>?_
  obtain⟨F,τ,R,h⟩:=z_
  refine zG ?_
  refine tTs.of R h.bind fun k F1 H1 g x R1=>?_
  cases k with
  |false=>rw[if_neg (by simp)];rw[if_neg (by simp)] at g;exact⟨F1,τ,R1,g.imp fun d e=>e.ext x⟩
  |true=>rw[if_pos rfl];rw[if_pos rfl] at g;exact g F1 H1 x
theorem Zk{e:Expr}(h:PDW X e ga):PDT X e ga:=PW.pt h
theorem TY(ha:PDT X a ga):PDT X (.UnaryOp .Not a pos) (VL ga):=
 PT.imp (Gr ha) fun σ H Q z_=>by obtain⟨F,τ,R,h⟩:=z_;exact tTs.of R h.bind fun k F1 H1 g x R1=>g F1 H1 x
noncomputable def eIf(g:FT)(fa fb:FE):FE:=fun τ=>(g τ).bind fun b=>if b=true then fa τ else fb τ
theorem GP(hc:PDT X c ga)(ha:PDE X a fa)(hb:PDE X b fb):PDE X (.IfExp c a b pos) (eIf ga fa fb):=
 PE.imp (GB hc ha hb) fun σ H Q z_=>by
  refine byc fun zG=>?_
  obtain⟨F,τ,R,h⟩:=z_
  refine zG ?_
  refine tTs.of R h.bind fun k F1 H1 g x R1=>?_
  cases k with
  |true=>rw[if_pos rfl];rw[if_pos rfl] at g;exact⟨F1,τ,R1,g.imp fun d e=>e.ext x⟩
  |false=>rw[if_neg (by simp)];rw[if_neg (by simp)] at g;exact⟨F1,τ,R1,g.imp fun d e=>e.ext x⟩
noncomputable def Jb(fa fb:FE):FE:=fun τ=>(fa τ).bind fun x=>(ZL x).bind fun b=>if b=true then fb τ else .ok x
noncomputable def eOr(fa fb:FE):FE:=fun τ=>(fa τ).bind fun x=>(ZL x).bind fun b=>if b=true then .ok x else fb τ
theorem Yz{op}(h:PDE X a fa):PDE X (.BoolOp op [a] pos) fa:=zc4 h
theorem W4(ha:PDE X a fa)(hb:PDE X (.BoolOp .And (b::rest) pos) fb):PDE X (.BoolOp .And (a::b::rest) pos) (Jb fa fb):=by
 rintro pins s σ H Q I ⟨F,τ,R,h⟩
 refine BoolOp_and (thn (ha pins s σ H _ I (tE.of R h.bind fun d v F1 H1 g x R1 r=>(⟨d,F1,g,x,R1,r⟩:∃d F1,Ok X ((ZL d).bind fun b=>if b=true then fb τ else .ok d) (Ev X.K F H Q)∧Ext F H F1 H1∧RV X.K F1 τ σ H1∧Rep X.K F1 d v))) fun v s1 z_=>?_)
 refine byc fun zG=>?_
 obtain⟨x,H1,I1,r1,d,F1,g,x1,R1,r⟩:=z_
 refine zG ?_
 refine thn (tru_ok pins s1 σ H1 x v (fun b H2=>H2=H1∧Ok X (if b=true then fb τ else .ok d) (Ev X.K F H Q)) I1 r1 (Uy (Q:=fun b H2=>H2=H1∧Ok X (if b=true then fb τ else .ok d) (Ev X.K F H Q)) R1.fh r (g.bind.imp fun b e=>⟨rfl,e⟩))) fun k s2 z_=>?_
 refine byc fun zG=>?_
 obtain⟨H2,I2,e2,q⟩:=z_
 refine zG ?_
 subst e2
 cases k with
 |true=>rw[if_pos rfl] at q ⊢;exact hb pins s2 σ _ Q I2 ⟨F1,τ,R1,q.imp fun d e=>e.ext x1⟩
 |false=>rw[if_neg (by simp)] at q ⊢;exact⟨x,_,I2,r1,q x F1 _ x1 r⟩
theorem GO(ha:PDE X a fa)(hb:PDE X (.BoolOp .Or (b::rest) pos) fb):PDE X (.BoolOp .Or (a::b::rest) pos) (eOr fa fb):=by
 rintro pins s σ H Q I ⟨F,τ,R,h⟩
 refine BoolOp_or (thn (ha pins s σ H _ I (tE.of R h.bind fun d v F1 H1 g x R1 r=>(⟨d,F1,g,x,R1,r⟩:∃d F1,Ok X ((ZL d).bind fun b=>if b=true then .ok d else fb τ) (Ev X.K F H Q)∧Ext F H F1 H1∧RV X.K F1 τ σ H1∧Rep X.K F1 d v))) fun v s1 z_=>?_)
 refine byc fun zG=>?_
 obtain⟨x,H1,I1,r1,d,F1,g,x1,R1,r⟩:=z_
 refine zG ?_
 refine thn (tru_ok pins s1 σ H1 x v (fun b H2=>H2=H1∧Ok X (if b=true then .ok d else fb τ) (Ev X.K F H Q)) I1 r1 (Uy (Q:=fun b H2=>H2=H1∧Ok X (if b=true then .ok d else fb τ) (Ev X.K F H Q)) R1.fh r (g.bind.imp fun b e=>⟨rfl,e⟩))) fun k s2 z_=>?_
 refine byc fun zG=>?_
 obtain⟨H2,I2,e2,q⟩:=z_
 refine zG ?_
 subst e2
 cases k with
 |false=>rw[if_neg (by simp)] at q ⊢;exact hb pins s2 σ _ Q I2 ⟨F1,τ,R1,q.imp fun d e=>e.ext x1⟩
 |true=>rw[if_pos rfl] at q ⊢;exact⟨x,_,I2,r1,q x F1 _ x1 r⟩
end
section
variable{X:Cx}{pos:Pos}{e:Expr}{es:List Expr}{fe:FE}{fs:FA}
noncomputable def zg:FA:=fun _=>.ok []
noncomputable def za(f:FE)(g:FA):FA:=fun τ=>(f τ).bind fun x=>(g τ).bind fun r=>.ok (x::r)
theorem zj:PDA X [] zg:=PA.imp jT fun σ H Q z_=>by obtain⟨F,τ,R,h⟩:=z_;exact h [] F H (Ext.refl R.fh) Reps.nil
theorem zb(ha:PDE X e fe)(hr:PDA X es fs)(hs:starEach (e::es) X.env=(false,eval e X.env)::starEach es X.env:=by rfl):PDA X (e::es) (za fe fs):=
 PA.imp (vz ha hr hs) fun σ H Q ⟨F,τ,R,h⟩=>tE.of R h.bind fun x v F1 H1 g x1 R1 r1=>tAs.of R1 g.bind fun ys vs F2 H2 g2 x2 R2 r2=>
  g2 (v::vs) F2 H2 (x1.trans x2) (Reps.cons (r1.mono x2.ff) r2)
noncomputable def yz(f:FA):FE:=fun τ=>(f τ).bind fun ds=>if ds.length≤sizeLine then .ok (.tup ds) else .no
noncomputable def vB(f:FA):FE:=fun τ=>(f τ).bind fun ds=>if ds.length≤sizeLine then .ok (.lst ds) else .no
theorem yY{X:Cx}{α:Type}{c:Prop}[Decidable c]{a:α}{P:α→Prop}(h:Ok X (if c then .ok a else .no) P):c∧P a:=by
 by_cases z:c
 ·rw[if_pos z] at h;exact⟨z,h⟩
 ·rw[if_neg z] at h;exact h.elim
theorem yw{x1}(h:PDA X es fs):PDE X (.Tuple es x1 pos) (yz fs):=
 PE.imp (zc2 h) fun σ H Q z_=>by
  refine byc fun zG=>?_
  obtain⟨F,τ,R,hq⟩:=z_
  refine zG ?_
  refine tAs.of R hq.bind fun ds vs F1 H1 g x R1 r=>?_
  obtain⟨z,g⟩:=yY g
  refine⟨by rw[← r.length];exact z,fun p hp=>g (.ref p) _ _ (x.trans (Ext.new R1.fh hp)) ?_⟩
  simp only[Rep]
  exact⟨p,vs,rfl,SqT.of zB,r.mono (yr (zX R1.fh hp))⟩
theorem vT(h:PDA X es fs):PDE X (.List es pos) (vB fs):=
 PE.imp (Gz h) fun σ H Q z_=>by
  refine byc fun zG=>?_
  obtain⟨F,τ,R,hq⟩:=z_
  refine zG ?_
  refine tAs.of R hq.bind fun ds vs F1 H1 g x R1 r=>?_
  obtain⟨z,g⟩:=yY g
  refine⟨by rw[← r.length];exact z,fun p hp=>g (.ref p) _ _ (x.trans (Ext.new R1.fh hp)) ?_⟩
  simp only[Rep]
  exact⟨p,vs,rfl,zB,r.mono (yr (zX R1.fh hp))⟩
end
inductive Fl where
 | nx (τ:DS) | rt (d:D) | bk (τ:DS) | ct (τ:DS) | ex (c:Str) | no
 | rs (c:Str) (τ:DS)
 | ro (d:D) (τ:DS)
 | rb (i:Nat) (τ:DS)
noncomputable def Nw(X:Cx)(H:Hp)(b:Addr):Prop:=H b=none∧X.s₀.heap.get? b=none∧∀p∈X.pn,p.1≠b
noncomputable def ExcAt(X:Cx)(H:Hp)(h:Heap)(a:Addr)(cls:Value):Prop:=Nw X H a∧∃oe vs,h.get? a=some oe∧oe.cls=cls∧oe.dict=none∧oe.data=.fields vs ∧
 (vs[1]?=some .none∨∃T oT ts fl,vs[1]?=some (.ref T)∧Nw X H T∧T≠a∧h.get? T=some oT∧oT.data=.fields ts∧ts[3]?=some fl)∧vs[2]?=some .none
noncomputable def XA(X:Cx)(c:Str)(σ:St)(H:Hp):Prop:=∀s a cls,nsIn X.K mainGlobals c=some (some cls)→Inv X [] σ H s→ExcAt X H s.heap a cls→X.xe (.ref a) s
noncomputable abbrev FS:=DS→Fl
noncomputable def Post(X:Cx)(B Z F:Hp)(E:VE):Fl→Prop
 |.nx τ=>∀σ F' H',Same F F'→RS X.K B Z F' τ σ H'→E.nx σ H'
 |.bk τ=>∀σ F' H',Same F F'→RS X.K B Z F' τ σ H'→E.bk σ H'
 |.ct τ=>∀σ F' H',Same F F'→RS X.K B Z F' τ σ H'→E.ct σ H'
 |.rt d=>∀v F' H',Ext Z B F' H'→Rep X.K F' d v→E.rt v H'
 |.ex c=>Xob X c
 |.no=>False
 |.rs c τ=>∀σ F' H',Same F F'→RS X.K B Z F' τ σ H'→XA X c σ H'
 |.ro d τ=>∀v σ F' H',Same F F'→RS X.K B Z F' τ σ H'→Rep X.K F' d v→E.rt v H'
 |.rb i τ=>∀v σ F' H',Same F F'→RS X.K B Z F' τ σ H'→σ[i]?=some (some v)→E.rt v H'
theorem Post.same{X:Cx}{B Z F F1:Hp}{E:VE}{r:Fl}(h:Post X B Z F E r)(f:Same F F1):Post X B Z F1 E r:=by
 cases r with
 |nx τ=>exact fun σ F' H' g R=>h σ F' H' (f.trans g) R
 |bk τ=>exact fun σ F' H' g R=>h σ F' H' (f.trans g) R
 |ct τ=>exact fun σ F' H' g R=>h σ F' H' (f.trans g) R
 |rt d=>exact h
 |ex c=>exact h
 |no=>exact h
 |rs c τ=>exact fun σ F' H' g R=>h σ F' H' (f.trans g) R
 |ro d τ=>exact fun v σ F' H' g R r=>h v σ F' H' (f.trans g) R r
 |rb i τ=>exact fun v σ F' H' g R r=>h v σ F' H' (f.trans g) R r
noncomputable def tS(X:Cx)(f:FS):TS:=fun E σ H=>∃B Z F τ,RS X.K B Z F τ σ H∧Post X B Z F E (f τ)
noncomputable def PDS(X:Cx)(st:Stmt)(f:FS):Prop:=PS X st (tS X f)
noncomputable def vD(X:Cx)(st:List Stmt)(f:FS):Prop:=PSs X st (tS X f)
noncomputable def Fl.of{α:Type}(r:Rs α)(k:α→Fl):Fl:=match r with
 |.ok a=>k a
 |.ex c=>.ex c
 |.no=>.no
@[simp] theorem Fl.of_ok{α:Type}(a:α)(k:α→Fl):Fl.of (.ok a) k=k a:=rfl
theorem Post.of{X:Cx}{B Z F:Hp}{E:VE}{α:Type}{r:Rs α}{k:α→Fl}(h:Post X B Z F E (Fl.of r k)):Ok X r fun a=>Post X B Z F E (k a):=by
 cases r <;> exact h
section
variable{X:Cx}{pos:Pos}{e:Expr}{es:List Expr}{fe:FE}{fs:FA}{st:Stmt}{rest:List Stmt}{f g:FS}{c:Expr}{gc:FT}
noncomputable def zM:FS:=fun τ=>.nx τ
noncomputable def zu(f g:FS):FS:=fun τ=>match f τ with
 |.nx τ'=>g τ'
 |r=>r
theorem zS:vD X [] zM:=PSs.imp TJ fun E σ H z_=>by obtain⟨B,Z,F,τ,R,h⟩:=z_;exact h σ F H (Same.refl F) R
theorem zo(h:PDS X st f):vD X [st] f:=TH h
theorem zn(h1:PDS X st f)(h2:vD X rest g):vD X (st::rest) (zu f g):=
 PSs.imp (Gs h1 h2) fun E σ H z_=>by
  refine byc fun zG=>?_
  obtain⟨B,Z,F,τ,R,h⟩:=z_
  refine zG ?_
  refine⟨B,Z,F,τ,R,?_⟩
  unfold zu at h
  cases q:f τ with
  |nx τ'=>rw[q] at h;exact fun σ' F' H' ff R'=>⟨B,Z,F',τ',R',Post.same h ff⟩
  |rt d=>rw[q] at h;exact h
  |bk d=>rw[q] at h;exact h
  |ct d=>rw[q] at h;exact h
  |ex d=>rw[q] at h;exact h
  |no=>rw[q] at h;exact h
  |rs c d=>rw[q] at h;exact h
  |ro c d=>rw[q] at h;exact h
  |rb c d=>rw[q] at h;exact h
noncomputable def sNo:FS:=fun _=>.no
theorem ZS:PDS X st sNo:=PS.imp Gu fun E σ H z_=>by obtain⟨B,Z,F,τ,R,h⟩:=z_;exact h
noncomputable def yx(fe:FE):FS:=fun τ=>Fl.of (fe τ) fun d=>.rt d
theorem tE.at{B Z F H:Hp}{τ:DS}{σ:St}{Q:VK}{G:D→Prop}(R:RS X.K B Z F τ σ H)(h:Ok X (fe τ) G)
  (k:∀d v F1 H1,G d→Ext F H F1 H1→RS X.K B Z F1 τ σ H1→Rep X.K F1 d v→Q v H1):tE X fe σ H Q:=
 tE.of R.rv h fun d v F1 H1 g x _ r=>k d v F1 H1 g x (R.ext x) r
theorem zO(he:PDE X e fe):PDS X (.Return (some e) pos) (yx fe):=
 PS.imp (WY he) fun E σ H z_=>by obtain⟨B,Z,F,τ,R,h⟩:=z_;exact tE.at R h.of fun d v F1 H1 g x R1 r=>g v F1 H1 R1.out r
noncomputable def sIf(gc:FT)(f g:FS):FS:=fun τ=>Fl.of (gc τ) fun b=>if b=true then f τ else g τ
theorem yW{a b:List Stmt}(hc:PDT X c gc)(ha:vD X a f)(hb:vD X b g):PDS X (.If c a b pos) (sIf gc f g):=
 PS.imp (LW hc ha hb) fun E σ H z_=>by
  refine byc fun zG=>?_
  obtain⟨B,Z,F,τ,R,h⟩:=z_
  refine zG ?_
  refine tTs.of R.rv h.of fun k F1 H1 q x _=>?_
  cases k with
  |true=>rw[if_pos rfl] at q ⊢;exact⟨B,Z,F1,τ,R.ext x,q.same x.ff⟩
  |false=>rw[if_neg (by simp)] at q ⊢;exact⟨B,Z,F1,τ,R.ext x,q.same x.ff⟩
theorem RV.set{K:Frag}{F H:Hp}{τ:DS}{σ:St}{i:Nat}{d:D}{v:V}(R:RV K F τ σ H)(r:Rep K F d v):RV K F (τ.set i (some (.val d))) (σ.set i (some v)) H:=by
 refine⟨R.fh,by simp[R.len],fun j e h=>?_,fun j es h=>?_,fun j k ds es a hjk h1 h2 h3 h4=>?_,?_,?_⟩
 ·by_cases hij:i=j
  ·subst hij
   have hlt:i<τ.length:=by
    rcases lt_or_ge i τ.length with z|z
    ·exact z
    ·rw[List.getElem?_eq_none_iff.mpr (by simpa using z)] at h;cases h
   rw[getElem?_set_self hlt] at h
   cases h
   exact⟨v,by rw[getElem?_set_self (by rw[← R.len];exact hlt)],r⟩
  ·rw[getElem?_set_ne hij] at h ⊢
   exact R.val j e h
 ·by_cases hij:i=j
  ·subst hij
   rw[getElem?_set] at h
   simp only[if_true] at h
   split at h <;> cases h
  ·rw[getElem?_set_ne hij] at h ⊢
   exact R.own j es h
 ·have n1:i≠j:=fun z=>by
   subst z
   rw[getElem?_set] at h1
   simp only[if_true] at h1
   split at h1 <;> cases h1
  have n2:i≠k:=fun z=>by
   subst z
   rw[getElem?_set] at h2
   simp only[if_true] at h2
   split at h2 <;> cases h2
  rw[getElem?_set_ne n1] at h1 h3
  rw[getElem?_set_ne n2] at h2 h4
  exact R.dis j k ds es a hjk h1 h2 h3 h4
 ·exact R.tt
 ·exact R.ob.put rfl fun _ _ z=>by cases z
theorem RS.set{K:Frag}{B Z F H:Hp}{τ:DS}{σ:St}{i:Nat}{d:D}{v:V}(R:RS K B Z F τ σ H)(r:Rep K F d v):RS K B Z F (τ.set i (some (.val d))) (σ.set i (some v)) H:=
 ⟨R.rv.set r,R.bh,R.zf,R.nb,fun j ds a h1 h2=>by
  have n1:i≠j:=fun z=>by
   subst z
   rw[getElem?_set] at h1
   simp only[if_true] at h1
   split at h1 <;> cases h1
  rw[getElem?_set_ne n1] at h1 h2
  exact R.ob j ds a h1 h2,fun j m c fs a h1 h2=>by
  obtain⟨n,h1⟩:=yS (s:=some (.val d)) rfl rfl h1
  rw[getElem?_set_ne n] at h2
  exact R.oo j m c fs a h1 h2,fun a0 dx b1 b2 j m c fs h=>by
  obtain⟨n,h⟩:=yS (s:=some (.val d)) rfl rfl h
  rw[getElem?_set_ne n]
  exact R.sf a0 dx b1 b2 j m c fs h,fun j c fs a h1 h2=>by
  obtain⟨n,h1⟩:=yS (s:=some (.val d)) rfl rfl h1
  rw[getElem?_set_ne n] at h2
  exact R.ro j c fs a h1 h2⟩
noncomputable def yn(i:Nat)(fe:FE):FS:=fun τ=>Fl.of (fe τ) fun d=>.nx (τ.set i (some (.val d)))
theorem z9{i:Nat}{x:Str}{pos':Pos}(hN:X.N.Nodup)(hi:X.N[i]?=some x)(hx:Loc X.env.scope x)(he:PDE X e fe)(hs:swapsWith e (some (.Name x pos')) pos.line X.env=pure false:=by rfl)(hf:X.fn x=true∨X.env.scope.names.lookup x=some .local:=by first|exact .inl rfl|exact .inr rfl|assumption) :
  PDS X (.Assign [.Name x pos'] e pos) (yn i fe):=
 PS.imp (YY hN hi hx he hs hf) fun E σ H z_=>by obtain⟨B,Z,F,τ,R,h⟩:=z_;exact tE.at R h.of fun d v F1 H1 g x R1 r=>g _ F1 H1 x.ff (R1.set r)
noncomputable def tFr(X:Cx)(f:FA):TE:=fun σ H Q=>∃F τ,RV X.K F τ σ H∧Ok X (f τ) fun ds=>∀p vs F' H',Ext F H F' H'→H' p=none→Reps X.K F' ds vs→Q (.ref p) (upd H' p (.lst vs))
noncomputable def PDF(X:Cx)(e:Expr)(f:FA):Prop:=PE X e (tFr X f)
theorem vS(h:PDA X es fs):PDF X (.List es pos) (fun τ=>(fs τ).bind fun ds=>if ds.length≤sizeLine then .ok ds else .no):=
 PE.imp (Gz h) fun σ H Q z_=>by
  refine byc fun zG=>?_
  obtain⟨F,τ,R,hq⟩:=z_
  refine zG ?_
  refine tAs.of R hq.bind fun ds vs F1 H1 g x R1 r=>?_
  obtain⟨z,g⟩:=yY g
  exact⟨by rw[← r.length];exact z,fun p hp=>g p vs F1 H1 x hp r⟩
theorem ZT{ff:FA}(h:PDF X e ff):PDE X e (fun τ=>(ff τ).bind fun ds=>.ok (.lst ds)):=
 PE.imp h fun σ H Q ⟨F,τ,R,hq⟩=>⟨F,τ,R,hq.bind.imp fun ds g p vs F1 H1 x hp r=>by
  refine g (.ref p) _ _ (x.trans (Ext.new x.fh hp)) ?_
  simp only[Rep]
  exact⟨p,vs,rfl,zB,r.mono (yr (zX x.fh hp))⟩⟩
noncomputable def wQ(i:Nat)(ff:FA):FS:=fun τ=>Fl.of (ff τ) fun ds=>.nx (τ.set i (some (.own ds)))
theorem RV.setO{K:Frag}{F H:Hp}{τ:DS}{σ:St}{i:Nat}{p:Addr}{ds:List D}{vs:List V}(R:RV K F τ σ H)(hp:H p=none)(r:Reps K F ds vs):RV K F (τ.set i (some (.own ds))) (σ.set i (some (.ref p))) (upd H p (.lst vs)):=by
 have nofr:=zX R.fh hp
 have hlt:∀{o:Sl},(τ.set i (some (.own ds)))[i]?=some (some o)→i<τ.length:=fun {o} h=>by
  rcases lt_or_ge i τ.length with z|z
  ·exact z
  ·rw[List.getElem?_eq_none_iff.mpr (by simpa using z)] at h;cases h
 refine⟨R.fh.trans (yr hp),by simp[R.len],fun j e h=>?_,fun j es h=>?_,fun j k es es' a hjk h1 h2 h3 h4=>?_,?_,?_⟩
 ·by_cases hij:i=j
  ·subst hij
   rw[getElem?_set_self (hlt h)] at h;cases h
  ·rw[getElem?_set_ne hij] at h ⊢
   exact R.val j e h
 ·by_cases hij:i=j
  ·subst hij
   have l:=hlt h
   rw[getElem?_set_self l] at h
   cases h
   exact⟨p,vs,by rw[getElem?_set_self (by rw[← R.len];exact l)],zB,nofr,r⟩
  ·rw[getElem?_set_ne hij] at h ⊢
   refine byc fun zG=>?_
   obtain⟨a,ws,q1,q2,q3,q4⟩:=R.own j es h
   refine zG ?_
   exact⟨a,ws,q1,by rw[zr (zR q2 hp)];exact q2,q3,q4⟩
 ·by_cases n1:i=j
  ·subst n1
   rw[getElem?_set_ne hjk] at h2 h4
   refine byc fun zG=>?_
   obtain⟨a',ws,q1,q2,q3,q4⟩:=R.own k es' h2
   refine zG ?_
   rw[q1] at h4;cases h4
   have l:=hlt h1
   rw[getElem?_set_self (by rw[← R.len];exact l)] at h3
   cases h3
   rw[hp] at q2;cases q2
  ·by_cases n2:i=k
   ·subst n2
    rw[getElem?_set_ne (Ne.symm hjk)] at h1 h3
    refine byc fun zG=>?_
    obtain⟨a',ws,q1,q2,q3,q4⟩:=R.own j es h1
    refine zG ?_
    rw[q1] at h3;cases h3
    have l:=hlt h2
    rw[getElem?_set_self (by rw[← R.len];exact l)] at h4
    cases h4
    rw[hp] at q2;cases q2
   ·rw[getElem?_set_ne n1] at h1 h3
    rw[getElem?_set_ne n2] at h2 h4
    exact R.dis j k es es' a hjk h1 h2 h3 h4
 ·exact R.tt.step (fun _ _ e=>.inl e) (fun b o e _=>by rw[zr (zR e hp)];exact e) (ux fun _ z=>nomatch z)
 ·have o1:ObsOk K F (τ.set i (some (.own ds))) (σ.set i (some (.ref p))) H:=R.ob.put rfl fun _ l _ z=>by
   cases z;exact R.ob.fresh hp
  exact o1.updL (.inl hp) (o1.fresh hp)
theorem RS.setO{K:Frag}{B Z F H:Hp}{τ:DS}{σ:St}{i:Nat}{p:Addr}{ds:List D}{vs:List V}(R:RS K B Z F τ σ H)(hp:H p=none)(r:Reps K F ds vs):RS K B Z F (τ.set i (some (.own ds))) (σ.set i (some (.ref p))) (upd H p (.lst vs)):=
 ⟨R.rv.setO hp r,R.bh.trans (.of (yr hp)),R.zf,R.nb,fun j es a h1 h2=>by
  by_cases n1:i=j
  ·subst n1
   have l:i<τ.length:=by
    rcases lt_or_ge i τ.length with z|z
    ·exact z
    ·rw[List.getElem?_eq_none_iff.mpr (by simpa using z)] at h1;cases h1
   rw[getElem?_set_self (by rw[← R.rv.len];exact l)] at h2
   cases h2
   exact xJ R.bh hp
  ·rw[getElem?_set_ne n1] at h1 h2
   exact R.ob j es a h1 h2,fun j m c fs a h1 h2=>by
  obtain⟨n,h1⟩:=yS (s:=some (.own ds)) rfl rfl h1
  rw[getElem?_set_ne n] at h2
  rw[R.rv.ob.lof (.inl ⟨m,fs,h1⟩) h2 (.inl hp)]
  exact R.oo j m c fs a h1 h2,fun a0 dx b1 b2 j m c fs h=>by
  obtain⟨n,h⟩:=yS (s:=some (.own ds)) rfl rfl h
  rw[getElem?_set_ne n]
  exact R.sf a0 dx b1 b2 j m c fs h,fun j c fs a h1 h2=>by
  obtain⟨n,h1⟩:=yS (s:=some (.own ds)) rfl rfl h1
  rw[getElem?_set_ne n] at h2
  exact R.ro j c fs a h1 h2⟩
theorem u0{i:Nat}{x:Str}{pos':Pos}{ff:FA}(hN:X.N.Nodup)(hi:X.N[i]?=some x)(hx:Loc X.env.scope x)(he:PDF X e ff)(hs:swapsWith e (some (.Name x pos')) pos.line X.env=pure false:=by rfl)(hf:X.fn x=true∨X.env.scope.names.lookup x=some .local:=by first|exact .inl rfl|exact .inr rfl|assumption) :
  PDS X (.Assign [.Name x pos'] e pos) (wQ i ff):=
 PS.imp (YY hN hi hx he hs hf) fun E σ H z_=>by obtain⟨B,Z,F,τ,R,h⟩:=z_;exact⟨F,τ,R.rv,h.of.imp fun ds g p vs F1 H1 x hp r=>g _ F1 _ x.ff ((R.ext x).setO hp r)⟩
theorem RV.own_upd{K:Frag}{F H:Hp}{τ:DS}{σ:St}{i:Nat}{p:Addr}{ds es:List D}{ws:List V}(R:RV K F τ σ H)(h:τ[i]?=some (some (.own ds)))(hp:σ[i]?=some (some (.ref p)))(r:Reps K F es ws) :
  RV K F (τ.set i (some (.own es))) σ (upd H p (.lst ws)):=by
 refine byc fun zG=>?_
 obtain⟨a,vs,q1,q2,q3,q4⟩:=R.own i ds h
 refine zG ?_
 rw[q1] at hp;cases hp
 have l:i<τ.length:=(List.getElem?_eq_some_iff.mp h).1
 refine⟨fun b o e=>?_,by simp[R.len],fun j e h'=>?_,fun j es' h'=>?_,fun j k e1 e2 b hjk h1 h2 h3 h4=>?_,?_,?_⟩
 ·have n:b≠p:=fun z=>by subst z;rw[q3] at e;cases e
  rw[zr n];exact R.fh b o e
 ·by_cases hij:i=j
  ·subst hij;rw[getElem?_set_self l] at h';cases h'
  ·rw[getElem?_set_ne hij] at h';exact R.val j e h'
 ·by_cases hij:i=j
  ·subst hij
   rw[getElem?_set_self l] at h';cases h'
   exact⟨p,ws,q1,zB,q3,r⟩
  ·rw[getElem?_set_ne hij] at h'
   refine byc fun zG=>?_
   obtain⟨a',vs',z1,z2,z3,z4⟩:=R.own j es' h'
   refine zG ?_
   have n:a'≠p:=fun z=>by subst z;exact R.dis i j ds es' a' hij h h' q1 z1
   exact⟨a',vs',z1,by rw[zr n];exact z2,z3,z4⟩
 ·have:∀{m:Nat} {e:List D},(τ.set i (some (.own es)))[m]?=some (some (.own e))→∃e',τ[m]?=some (some (.own e')):=fun {m e} z=>by
   by_cases him:i=m
   ·subst him;exact⟨ds,h⟩
   ·rw[getElem?_set_ne him] at z;exact⟨e,z⟩
  obtain⟨x1,y1⟩:=this h1
  obtain⟨x2,y2⟩:=this h2
  exact R.dis j k x1 x2 b hjk y1 y2 h3 h4
 ·exact R.tt.step (fun _ _ e=>.inl e) (fun b o e n=>by
   have:b≠p:=fun z=>by subst z;rw[q2] at e;cases e;exact n _ rfl
   rw[zr this];exact e) (ux fun _ z=>nomatch z)
 ·exact(R.ob.updL (.inr ⟨vs,q2⟩) fun j c a g1 g2 hl=>R.ob.lo j i c ds a p g1 h g2 q1 hl).putS h
theorem RS.own_upd{K:Frag}{B Z F H:Hp}{τ:DS}{σ:St}{i:Nat}{p:Addr}{ds es:List D}{ws:List V}(R:RS K B Z F τ σ H)(h:τ[i]?=some (some (.own ds)))(hp:σ[i]?=some (some (.ref p)))(r:Reps K F es ws) :
  RS K B Z F (τ.set i (some (.own es))) σ (upd H p (.lst ws)):=by
 have hb:=R.ob i ds p h hp
 refine⟨R.rv.own_upd h hp r,fun b o e=>?_,R.zf,R.nb,fun j e a h1 h2=>?_,fun j m c fs a h1 h2=>?_,fun a0 dx b1 b2 j m c fs h=>R.sf a0 dx b1 b2 j m c fs (yS (s:=some (.own es)) rfl rfl h).2,fun j c fs a h1 h2=>R.ro j c fs a (yS (s:=some (.own es)) rfl rfl h1).2 h2⟩
 ·have n:b≠p:=fun z=>by subst z;rw[hb] at e;cases e
  rw[zr n];exact R.bh b o e
 ·by_cases him:i=j
  ·subst him;exact R.ob i ds a h h2
  ·rw[getElem?_set_ne him] at h1;exact R.ob j e a h1 h2
 ·have h1:=(yS (s:=some (.own es)) rfl rfl h1).2
  refine byc fun zG=>?_
  obtain⟨p',vs,q1,q2,_⟩:=R.rv.own i ds h
  refine zG ?_
  rw[q1] at hp;cases hp
  rw[R.rv.ob.lof (.inl ⟨m,fs,h1⟩) h2 (.inr ⟨vs,q2⟩)]
  exact R.oo j m c fs a h1 h2
noncomputable def jH(τ:DS)(i:Nat):Rs (List D):=match τ[i]? with
 | some (some (.own ds))=>.ok ds
 |_=>.no
theorem u7{τ:DS}{i:Nat}{P:List D→Prop}(h:Ok X (jH τ i) P):∃ds,τ[i]?=some (some (.own ds))∧P ds:=by
 unfold jH at h
 cases q:τ[i]? with
 |none=>rw[q] at h;exact h.elim
 |some o=>
  cases o with
  |none=>rw[q] at h;exact h.elim
  |some sl=>
   cases sl with
   |val d=>rw[q] at h;exact h.elim
   |obj n c fs=>rw[q] at h;exact h.elim
   |obr c fs=>rw[q] at h;exact h.elim
   |own ds=>rw[q] at h;exact⟨ds,rfl,h⟩
noncomputable def uW(i:Nat)(fe:FE):FS:=fun τ=>Fl.of (jH τ i) fun ds=>Fl.of (fe τ) fun d=>if ds.length<sizeLine then .nx (τ.set i (some (.own (ds++[d])))) else .no
theorem Zo{i:Nat}{x:Str}{p1 apos cpos:Pos}(hx:PE X (.Name x p1) (wN i))(he:PDE X e fe)
  (hfew:((backTo cpos (starEach [e] X.env)).all (fun x=>!x.1)&&(backToKw cpos (keywordEach [] X.env)).all (fun x=>x.1.isSome)
   && decide ([e].length+([]:List Keyword).length+(if ([]:List Keyword).isEmpty then 0 else 1)<30))=true:=by rfl)
  (hline:(apos.endLine==cpos.line)=true:=by rfl) (hs:starEach [e] X.env=[(false,eval e X.env)]:=by rfl) (hplain:(backTo cpos (starEach [] X.env)).any (·.1)=false:=by rfl)
  (hbase:attributeBase (.Name x p1) "append" X.env (eval (.Name x p1) X.env)=eval (.Name x p1) X.env:=by rfl)
  (hsw:swapsWith (.Call (.Attribute (.Name x p1) "append" apos) [e] [] cpos) none pos.line X.env=pure false:=by rfl) :
  PDS X (.Expr (.Call (.Attribute (.Name x p1) "append" apos) [e] [] cpos) pos) (uW i fe):=
 PS.imp (Yu (GE PySem.F.plainAttrs_list PySem.F.slot_list_append PySem.F.type_list_append jx hx (vz he jT (by rw[hs];rfl)) hbase hfew hline (by rw[hs];rfl) hplain) hsw) fun E σ H z_=>by
  refine byc fun zG=>?_
  obtain⟨B,Z,F,τ,R,h⟩:=z_
  obtain⟨ds,h1,h2⟩:=u7 (X:=X) (Post.of h)
  obtain⟨a,vs,q1,q2,q3,q4⟩:=R.rv.own i ds h1
  refine zG ?_
  refine⟨_,q1,.inl ⟨rfl,vs,SqL.of q2⟩,?_⟩
  refine tE.at R h2.of fun d v F1 H1 g x R1 r=>?_
  by_cases z:ds.length<sizeLine
  ·rw[if_pos z] at g
   refine⟨a,vs,v,rfl,rfl,x.hh _ _ q2,by rw[← q4.length];exact z,?_⟩
   exact g _ F1 _ x.ff (R1.own_upd h1 q1 ((q4.mono x.ff).append (Reps.cons r Reps.nil)))
  ·rw[if_neg z] at g;exact g.elim
noncomputable def Qf(i:Nat)(fi fe:FE):FS:=fun τ=>Fl.of (fe τ) fun d=>Fl.of (jH τ i) fun ds=>Fl.of (fi τ) fun k=>match k with
 |.int k=>match ixN ds.length k with
  |some j=>.nx (τ.set i (some (.own (ds.set j d))))
  |none=>.no
 |_=>.no
theorem TZ{i:Nat}{x:Str}{p1 spos:Pos}{ix:Expr}{fi:FE}(hx:PE X (.Name x p1) (wN i))(hi:PDE X ix fi)(he:PDE X e fe)
  (ha:∀v,assign (.Subscript (.Name x p1) ix spos) X.env v=(do
   let ov ← holding [v] (eval (.Name x p1) X.env)
   let iv ← holding [v,ov] (eval ix X.env)
   standAt spos
   holding [v,ov,iv] (setItem ov iv v)
   release [v,ov,iv] []):=by intro _;rfl)
  (hs:swapsWithSole [.Subscript (.Name x p1) ix spos] e pos.line X.env=pure false:=by rfl) (hw:swappedStores [.Subscript (.Name x p1) ix spos] e X.env=pure none:=by rfl)
  (h1:(assignEach [.Subscript (.Name x p1) ix spos] X.env).map (·.2)=[assign (.Subscript (.Name x p1) ix spos) X.env]:=by rfl) :
  PDS X (.Assign [.Subscript (.Name x p1) ix spos] e pos) (Qf i fi fe):=
 PS.imp (zb5 he (zc0 hx hi Q9 ha) hs hw h1) fun E σ H z_=>by
  refine byc fun zG=>?_
  obtain⟨B,Z,F,τ,R,h⟩:=z_
  refine zG ?_
  refine tE.at R h.of fun d v F1 H1 g x R1 r=>?_
  refine byc fun zG=>?_
  obtain⟨ds,h1,h2⟩:=u7 (X:=X) (Post.of g)
  obtain⟨a,vs,q1,q2,q3,q4⟩:=R1.rv.own i ds h1
  refine zG ?_
  refine⟨_,q1,?_⟩
  refine tE.at R1 h2.of fun k w F2 H2 g2 x2 R2 r2=>?_
  cases k with
  |int k=>
   simp only[Rep] at r2
   simp only at g2
   cases q:ixN ds.length k with
   |none=>rw[q] at g2;exact g2.elim
   |some j=>
    rw[q] at g2
    refine⟨a,vs,k,j,rfl,r2,x2.hh _ _ q2,by rw[← q4.length];exact q,?_⟩
    exact g2 _ F2 _ (x.ff.trans x2.ff) (R2.own_upd h1 q1 (Reps.set (r.mono x2.ff) j (q4.mono x2.ff)))
  |_=>exact g2.elim
noncomputable def vH(i:Nat):FS:=fun τ=>Fl.of (jH τ i) fun ds=>.rt (.lst ds)
theorem u3{i:Nat}{x:Str}{p1:Pos}(hx:PE X (.Name x p1) (wN i)):PDS X (.Return (some (.Name x p1)) pos) (vH i):=
 PS.imp (WY hx) fun E σ H z_=>by
  refine byc fun zG=>?_
  obtain⟨B,Z,F,τ,R,h⟩:=z_
  obtain⟨ds,h1,h2⟩:=u7 (X:=X) (Post.of h)
  obtain⟨a,vs,q1,q2,q3,q4⟩:=R.rv.own i ds h1
  refine zG ?_
  have hb:=R.ob i ds a h1 q1
  refine⟨_,q1,h2 (.ref a) (upd F a (.lst vs)) H ⟨?_,R.bh,fun b o e=>?_,fun b o e=>?_,fun _=>R.rv.tt.freeze q2⟩ ?_⟩
  ·exact R.zf.trans (yr q3)
  ·by_cases z:b=a
   ·subst z;rw[zB] at e;cases e;exact q2
   ·rw[zr z] at e;exact R.rv.fh b o e
  ·by_cases z:b=a
   ·subst z;exact .inr hb
   ·rw[zr z] at e;exact R.nb b o e
  ·simp only[Rep]
   exact⟨a,vs,rfl,zB,q4.mono (yr q3)⟩
noncomputable def QL(i:Nat)(fi:FE):FE:=fun τ=>(jH τ i).bind fun ds=>(fi τ).bind fun k=>match k with
 |.int k=>match atI ds k with
  |some d=>.ok d
  |none=>.no
 |_=>.no
theorem ZJ{K:Frag}{F:Hp}{ds:List D}{vs:List V}{k:Int}{d:D}(r:Reps K F ds vs)(h:atI ds k=some d):∃v,atI vs k=some v∧Rep K F d v:=by
 unfold atI at h ⊢
 rw[← r.length]
 cases q:ixN ds.length k with
 |none=>rw[q] at h;cases h
 |some j=>
  rw[q] at h
  exact r.get h
theorem T0{i:Nat}{x:Str}{p1:Pos}{ix:Expr}{fi:FE}(hx:PE X (.Name x p1) (wN i))(hi:PDE X ix fi)(hs:YM ix:=by intro _ _;rfl):PDE X (.Subscript (.Name x p1) ix pos) (QL i fi):=
 PE.imp (GA ix_list hx hi hs) fun σ H Q z_=>by
  refine byc fun zG=>?_
  obtain⟨F,τ,R,h⟩:=z_
  obtain⟨ds,h1,h2⟩:=u7 (X:=X) (Ok.bind h)
  obtain⟨a,vs,q1,q2,q3,q4⟩:=R.own i ds h1
  refine zG ?_
  refine⟨_,q1,?_⟩
  refine tE.of R h2.bind fun k w F2 H2 g2 x2 R2 r2=>?_
  cases k with
  |int k=>
   simp only[Rep] at r2
   simp only at g2
   cases q:atI ds k with
   |none=>rw[q] at g2;exact g2.elim
   |some d=>
    rw[q] at g2
    obtain⟨v,z1,z2⟩:=ZJ q4 q
    exact⟨a,vs,k,v,rfl,r2,SqL.of (x2.hh _ _ q2),z1,g2 v F2 H2 x2 (z2.mono x2.ff)⟩
  |_=>exact g2.elim
noncomputable def uO(i:Nat):FE:=fun τ=>(jH τ i).bind fun ds=>.ok (.int ds.length)
theorem Zs{i:Nat}{x:Str}{p1 p:Pos}(hx:PE X (.Name x p1) (wN i))(hg:Gl X "len")(hm:X.mg "len" = none)
  (he:starEach [.Name x p1] X.env=[(false,eval (.Name x p1) X.env)]:=by rfl) (hpl:(backTo pos (starEach [] X.env)).any (·.1)=false:=by rfl):PDE X (.Call (.Name "len" p) [.Name x p1] [] pos) (uO i):=
 PE.imp (pe_callB call_len_seq hg hm PySem.boot_len (vz hx jT (by rw[he];rfl)) (he:=by rw[he];rfl) (hpl:=hpl)) fun σ H Q z_=>by
  refine byc fun zG=>?_
  obtain⟨F,τ,R,h⟩:=z_
  obtain⟨ds,h1,h2⟩:=u7 (X:=X) (Ok.bind h)
  obtain⟨a,vs,q1,q2,q3,q4⟩:=R.own i ds h1
  refine zG ?_
  refine⟨_,q1,a,vs,rfl,.inl (SqL.of q2),?_⟩
  rw[← q4.length]
  exact h2 (.int ds.length) F H (Ext.refl R.fh) (by simp only[Rep])
end
noncomputable def QV(K:Frag)(J:It)(F1:Hp)(ds:List D):Prop:=∀(i:Nat) (F H:Hp),Same F1 F→Same F H →
 (ds.length≤i→J.stop i H)∧∀d,ds[i]?=some d→J.go i H∧∀x H',J.yld i H x H'→∃F',Ext F H F' H'∧Rep K F' d x
noncomputable def tI(X:Cx)(f:FA):TI:=fun σ H R=>∃F τ,RV X.K F τ σ H∧Ok X (f τ) fun ds=>∀J F1 H1,Ext F H F1 H1→QV X.K J F1 ds→R J H1
noncomputable def PDI(X:Cx)(tg iter:Expr)(f:FA):Prop:=PI X tg iter (tI X f)
theorem _root_.L2.PI.imp{X:Cx}{tg e:Expr}{t t':TI}(h:PI X tg e t)(f:∀σ H Q,t' σ H Q→t σ H Q):PI X tg e t':=fun pins s σ H Q I q=>h pins s σ H Q I (f _ _ _ q)
section
variable{X:Cx}{pos:Pos}{e tg:Expr}{es:List Expr}{fe:FE}{fs:FA}
theorem JS{K:Frag}{a:Addr}{F1:Hp}{ds:List D}{vs:List V}(e:SqL K F1 a vs)(r:Reps K F1 ds vs):QV K (Itl K a) F1 ds:=fun i F H f1 f2=>by
 have q:SqL K H a vs:=(f1.trans f2).seq e
 refine⟨fun h=>⟨vs,q,by rw[← r.length];exact h⟩,fun d hd=>?_⟩
 obtain⟨v,h1,h2⟩:=r.get hd
 refine⟨⟨vs,v,q,h1⟩,fun x H' y=>?_⟩
 obtain⟨e1,y⟩:=y
 subst e1
 have h3:=y vs q
 rw[h1] at h3;cases h3
 exact⟨F,Ext.refl f2,h2.mono f1⟩
theorem zf8{K:Frag}{a:Addr}{F1:Hp}{ds:List D}{vs:List V}(e:SqT K F1 a vs)(r:Reps K F1 ds vs):QV K (Itt K a) F1 ds:=fun i F H f1 f2=>by
 have q:SqT K H a vs:=Same.seqT (f1.trans f2) e
 refine⟨fun h=>⟨vs,q,by rw[← r.length];exact h⟩,fun d hd=>?_⟩
 obtain⟨v,h1,h2⟩:=r.get hd
 refine⟨⟨vs,v,q,h1⟩,fun x H' y=>?_⟩
 obtain⟨e1,y⟩:=y
 subst e1
 have h3:=y vs q
 rw[h1] at h3;cases h3
 exact⟨F,Ext.refl f2,h2.mono f1⟩
noncomputable def uR(lo:Int)(n:Nat):List D:=(List.range n).map fun (k:Nat)=>D.int (lo+k)
theorem Mw{K:Frag}{F1:Hp}{lo:Int}{n:Nat}:QV K (Itr lo n) F1 (uR lo n):=fun i F H f1 f2=>by
 have hl:(uR lo n).length=n:=by simp[uR]
 refine⟨fun h=>by rw[hl] at h;exact h,fun d hd=>?_⟩
 have hi:i<n:=by have:=(List.getElem?_eq_some_iff.mp hd).1;rw[hl] at this;exact this
 refine⟨hi,fun x H' y=>?_⟩
 obtain⟨e1,y⟩:=y
 subst e1
 refine⟨F,Ext.refl f2,?_⟩
 simp[uR,hi] at hd
 subst hd
 simp only[Rep];exact y
noncomputable def U0:List D→Option Int
 |[.int j]=>some j
 |_=>none
noncomputable def Vo:List D→Option (Int×Int)
 |[.int i,.int j]=>some (i,j)
 |_=>none
noncomputable def Y8:D→Option (D×D)
 |.tup [x,y]=>some (x,y)
 |_=>none
theorem JU{ds:List D}{j:Int}(h:U0 ds=some j):ds=[.int j]:=by
 unfold U0 at h;split at h <;> cases h;rfl
theorem Vn{ds:List D}{i j:Int}(h:Vo ds=some (i,j)):ds=[.int i,.int j]:=by
 unfold Vo at h;split at h <;> cases h;rfl
theorem GS{d x y:D}(h:Y8 d=some (x,y)):d=.tup [x,y]:=by
 unfold Y8 at h;split at h <;> cases h;rfl
noncomputable def ww(fs:FA):FA:=fun τ=>(fs τ).bind fun ds=>match U0 ds with
 |some j=>if -(2 ^ 62)≤j∧j<2 ^ 62 then .ok (uR 0 j.toNat) else .no
 |none=>.no
theorem xc{a:Expr}{p:Pos}(hg:Gl X "range")(hm:X.mg "range" = none)(ha:PDA X [a] fs)(hs:starEach [a] X.env=[(false,eval a X.env)]:=by rfl):PDI X tg (.Call (.Name "range" p) [a] [] pos) (ww fs):=
 PI.imp (Qk hg hm ha hs) fun σ H R z_=>by
  refine byc fun zG=>?_
  obtain⟨F,τ,Rv,h⟩:=z_
  refine zG ?_
  refine tAs.of Rv h.bind fun ds vs F1 H1 g x R1 r=>?_
  cases q1:U0 ds with
  |none=>rw[q1] at g;exact g.elim
  |some j=>
   rw[q1] at g
   have e:=JU q1
   subst e
   obtain⟨v,rfl,q⟩:=r.one
   simp only[Rep] at q;subst q
   obtain⟨z,g⟩:=yY g
   exact⟨j,rfl,z.1,z.2,g _ F1 H1 x Mw⟩
noncomputable def QH(fs:FA):FA:=fun τ=>(fs τ).bind fun ds=>match Vo ds with
 | some (i,j)=>if (-(2 ^ 62)≤i∧i<2 ^ 62)∧-(2 ^ 62)≤j∧j<2 ^ 62 then .ok (uR i (j-i).toNat) else .no
 |none=>.no
theorem UM{a b:Expr}{p:Pos}(hg:Gl X "range")(hm:X.mg "range" = none)(ha:PDA X [a,b] fs)(hs:starEach [a,b] X.env=[(false,eval a X.env),(false,eval b X.env)]:=by rfl)(hs2:starEach [b] X.env=[(false,eval b X.env)]:=by rfl) :
  PDI X tg (.Call (.Name "range" p) [a,b] [] pos) (QH fs):=
 PI.imp (Qj hg hm ha hs hs2) fun σ H R z_=>by
  refine byc fun zG=>?_
  obtain⟨F,τ,Rv,h⟩:=z_
  refine zG ?_
  refine tAs.of Rv h.bind fun ds vs F1 H1 g x R1 r=>?_
  cases q1:Vo ds with
  |none=>rw[q1] at g;exact g.elim
  |some ij=>
   refine byc fun zG=>?_
   obtain⟨i,j⟩:=ij
   rw[q1] at g
   have e:=Vn q1
   subst e
   obtain⟨v,w,rfl,q,q'⟩:=r.two
   refine zG ?_
   simp only[Rep] at q q';subst q;subst q'
   obtain⟨z,g⟩:=yY g
   exact⟨i,j,rfl,⟨z.1.1,z.1.2,z.2.1,z.2.2⟩,g _ F1 H1 x Mw⟩
noncomputable abbrev FG:=D→DS→Rs DS
noncomputable def tG(X:Cx)(set:FG):TG:=fun v σ H Q=>∃F τ d,RV X.K F τ σ H∧Rep X.K F d v∧Ok X (set d τ) fun τ'=>∀σ',RV X.K F τ' σ' H→(∀B Z,RS X.K B Z F τ σ H→RS X.K B Z F τ' σ' H)→σ'.length=σ.length→Q σ' H
noncomputable def PDG(X:Cx)(tg:Expr)(set:FG):Prop:=PG X tg (tG X set)
theorem _root_.L2.PG.imp{X:Cx}{e:Expr}{t t':TG}(h:PG X e t)(f:∀v σ H Q,t' v σ H Q→t v σ H Q):PG X e t':=fun pins s σ H v u Q I r q=>h pins s σ H v u Q I r (f _ _ _ _ q)
noncomputable def gNm(i:Nat):FG:=fun d τ=>.ok (τ.set i (some (.val d)))
theorem yt{i:Nat}{x:Str}(hN:X.N.Nodup)(hi:X.N[i]?=some x)(hx:Loc X.env.scope x)(hf:X.fn x=true∨X.env.scope.names.lookup x=some .local:=by first|exact .inl rfl|exact .inr rfl|assumption):PDG X (.Name x pos) (gNm i):=
 PG.imp (WZ hN hi hx hf) fun v σ H Q z_=>by obtain⟨F,τ,d,R,r,h⟩:=z_;exact h _ (R.set r) (fun B Z R'=>R'.set r) (by simp)
noncomputable def gPr(i j:Nat):FG:=fun d τ=>match Y8 d with
 | some (x,y)=>.ok ((τ.set i (some (.val x))).set j (some (.val y)))
 |none=>.no
theorem VZ{i j k:Nat}{x y:Str}{px py:Pos}(hc:X.calm=true)(hN:X.N.Nodup)(hi:X.N[i]?=some x)(hx:Loc X.env.scope x)(hj:X.N[j]?=some y)(hy:Loc X.env.scope y)
  (hf:X.fn x=true∨X.env.scope.names.lookup x=some .local:=by first|exact .inl rfl|exact .inr rfl|assumption) (hf':X.fn y=true∨X.env.scope.names.lookup y=some .local:=by first|exact .inl rfl|exact .inr rfl|assumption) :
  PDG X (.Tuple [.Name x px,.Name y py] k pos) (gPr i j):=
 PG.imp (zb9 (n:=2) hc (VW (WZ hN hi hx hf) (VW (WZ hN hj hy hf') TQ))) fun v σ H Q z_=>by
  refine byc fun zG=>?_
  obtain⟨F,τ,d,R,r,h⟩:=z_
  refine zG ?_
  unfold gPr at h
  cases q1:Y8 d with
  |none=>rw[q1] at h;exact h.elim
  |some xy=>
   refine byc fun zG=>?_
   obtain⟨x,y⟩:=xy
   rw[q1] at h
   have e:=GS q1
   subst e
   simp only[Rep] at r
   obtain⟨a,vs,rfl,q,t⟩:=r
   obtain⟨v1,v2,rfl,r1,r2⟩:=t.two
   refine zG ?_
   exact⟨a,_,rfl,Same.seqT R.fh q,rfl,v1,[v2],rfl,v2,[],rfl,rfl,h _ ((R.set r1).set r2) (fun B Z R'=>(R'.set r1).set r2) (by simp)⟩
noncomputable def yJ(set:FG)(body:FS):List D→DS→Fl
 |[],τ=>.nx τ
 |d::r,τ=>Fl.of (set d τ) fun τ1=>match body τ1 with
  |.nx τ'=>yJ set body r τ'
  |.ct τ'=>yJ set body r τ'
  |.bk τ'=>.nx τ'
  |.rt d=>.rt d
  |.ro d τ'=>.ro d τ'
  |.rb d τ'=>.rb d τ'
  |.ex c=>.ex c
  |.no=>.no
  |.rs c τ'=>.rs c τ'
noncomputable def wR(fi:FA)(set:FG)(body:FS):FS:=fun τ=>Fl.of (fi τ) fun ds=>yJ set body ds τ
theorem xZ{iter:Expr}{body:List Stmt}{fi:FA}{set:FG}{fb:FS}(hp:PassesOwn (model X.prog X.w) X.A X.env X.xe)(hc:X.calm=true)(hi:PDI X tg iter fi)(hg:PDG X tg set)(hb:vD X body fb)
  (hs:∀x,foldedSetIterable iter X.env x=pure x:=by intro _;rfl):PDS X (.For tg iter body [] pos) (wR fi set fb):=
 PS.imp (Gv hp hc hi hg hb hs) fun E σ H z_=>by
  refine byc fun zG=>?_
  obtain⟨B,Z,F,τ,R,h⟩:=z_
  refine zG ?_
  refine⟨F,τ,R.rv,h.of.imp fun ds g J F1 H1 x io=>?_⟩
  refine⟨fun i m σ H=>m=ds.length-i∧i≤ds.length∧∃F' τ',Same F1 F'∧RS X.K B Z F' τ' σ H∧Post X B Z F' E (yJ set fb (ds.drop i) τ'),⟨ds.length,by simp,zero_le _,F1,τ,Same.refl _,R.ext x,g.same x.ff⟩,?_⟩
  rintro i m σ2 H2 ⟨rfl,hi,F2,τ2,f2,R2,p2⟩
  obtain⟨i1,i2⟩:=io i F2 H2 f2 R2.rv.fh
  by_cases hlt:i<ds.length
  ·have hd:ds.drop i=ds[i]::ds.drop (i+1):=drop_eq_getElem_cons hlt
   rw[hd] at p2
   obtain⟨go,yl⟩:=i2 ds[i] (by simp[hlt])
   refine .inr ⟨go,fun σ' H'=>∃F' τ',Same F2 F'∧RS X.K B Z F' τ' σ' H'∧Post X B Z F' E (yJ set fb (ds.drop (i+1)) τ'),fun σ' H' ⟨F',τ',a,b,c⟩=>⟨ds.length-(i+1),by lia,rfl,hlt,F',τ',f2.trans a,b,c⟩,fun y H' yy=>?_⟩
   obtain⟨F3,x3,r3⟩:=yl y H' yy
   have R3:=R2.ext x3
   refine⟨F3,τ2,ds[i],R3.rv,r3,(Post.of p2).imp fun τ4 p4 σ4 _ R4 _=>⟨B,Z,F3,τ4,R4 B Z R3,?_⟩⟩
   cases q:fb τ4 with
   |nx τ5=>rw[q] at p4;exact fun σ' F' H' ff RR=>⟨F',τ5,x3.ff.trans ff,RR,Post.same p4 (x3.ff.trans ff)⟩
   |ct τ5=>rw[q] at p4;exact fun σ' F' H' ff RR=>⟨F',τ5,x3.ff.trans ff,RR,Post.same p4 (x3.ff.trans ff)⟩
   |bk τ5=>rw[q] at p4;exact fun σ' F' H' ff RR=>p4 σ' F' H' (x3.ff.trans ff) RR
   |rt d=>rw[q] at p4;exact p4
   |ro d τ'=>rw[q] at p4;exact fun v σ' F' H' ff RR rr=>p4 v σ' F' H' (x3.ff.trans ff) RR rr
   |rb d τ'=>rw[q] at p4;exact fun v σ' F' H' ff RR rr=>p4 v σ' F' H' (x3.ff.trans ff) RR rr
   |ex c=>rw[q] at p4;exact p4
   |no=>rw[q] at p4;exact p4
   |rs c τ5=>rw[q] at p4;exact fun σ' F' H' ff RR=>p4 σ' F' H' (x3.ff.trans ff) RR
  ·have e:i=ds.length:=by lia
   subst e
   rw[drop_length] at p2
   exact .inl ⟨i1 (le_refl _),p2 σ2 F2 H2 (Same.refl _) R2⟩
end
noncomputable def Vd(r:Rs D):Rs D:=match r with
 |.ok d=>.ok d
 |_=>.no
noncomputable def spD(K:Frag)(n:Nat)(g:List D→Rs D):Sp:=fun vs H Q E=>vs.length=n∧∃ds F,Same F H∧TbT F H∧Reps K F ds vs∧match g ds with
 |.ok d=>Ev K F H Q d
 |_=>False
noncomputable def yc(N:Nat)(ds:List D):DS:=ds.map (fun d=>some (.val d))++List.replicate (N-ds.length) none
noncomputable def WD:Fl→Rs D
 |.rt d=>.ok d
 |.ro d _=>.ok d
 |.nx _=>.ok .non
 |.rs c _=>.ex c
 |_=>.no
noncomputable def wg(N:Nat)(fb:FS)(ds:List D):Rs D:=WD (fb (yc N ds))
theorem VT{K:Frag}{F H:Hp}{N:List Str}{ds:List D}{vs:List V}(fh:Same F H)(tt:TbT F H)(r:Reps K F ds vs):RS K H F F (yc N.length ds) (L2.start N vs) H:=by
 have hl:=r.length
 have hval:∀(i:Nat) (o:Sl),(yc N.length ds)[i]?=some (some o)→∃d,ds[i]?=some d∧o=.val d:=fun i o h=>by
  unfold yc at h
  by_cases hi:i<ds.length
  ·rw[getElem?_append_left (by simpa using hi),getElem?_map] at h
   cases e:ds[i]? with
   |none=>rw[e] at h;cases h
   |some d=>rw[e] at h;cases h;exact⟨d,rfl,rfl⟩
  ·rw[getElem?_append_right (by simpa using hi),getElem?_replicate] at h
   split at h <;> cases h
 refine⟨⟨fh,?_,fun i d h=>?_,fun i es h=>?_,fun i j es es' a _ h1 _ _ _=>?_,tt,ObsOk.none fun i s h=>?_⟩,Hh.refl H,Same.refl F,fun a o e=>.inl e,fun i es a h1 _=>?_,fun i m c fs a h1 _=>?_,fun a0 dx _ _ j m c fs h1=>?_,fun j c fs a h1 _=>?_⟩
 ·simp[yc,L2.start,hl]
 ·obtain⟨d',h1,h2⟩:=hval i _ h
  cases h2
  obtain⟨v,q1,q2⟩:=r.get h1
  refine⟨v,?_,q2⟩
  have hi:i<vs.length:=(List.getElem?_eq_some_iff.mp q1).1
  unfold L2.start
  rw[getElem?_append_left (by simpa using hi),getElem?_map,q1];rfl
 ·obtain⟨_,_,h2⟩:=hval i _ h;cases h2
 ·obtain⟨_,_,h2⟩:=hval i _ h1;cases h2
 ·cases s with
  |none=>rfl
  |some o=>obtain⟨_,_,h2⟩:=hval i _ h;rw[h2];rfl
 ·obtain⟨_,_,h2⟩:=hval i _ h1;cases h2
 ·obtain⟨_,_,h2⟩:=hval i _ h1;cases h2
 ·obtain⟨_,_,h2⟩:=hval j _ h1;cases h2
 ·obtain⟨_,_,h2⟩:=hval j _ h1;cases h2
section
variable{P:Program}{w:World}{K:Frag}{mg:Str→Option Value}{base:Heap}
theorem fnD{x qual:Str}{st:Stmt}{f:Addr}{fd:FuncData}{N ps:List Str}{k n:Nat}{fb:FS}(F:Fun K x qual st f fd)(S:zD N ps (zi st))(hn:ps.length=n)
  (hbody:∀(cdv:Value) (A:Around) (outer:List Env) (s:Shared) (H:Hp) (E:XK),Room k (A.deeper (envOfC qual (zi st) s.heap.objs.size f cdv)) →
   vD (uS CX0 P w K mg base N qual (zi st) f cdv A outer s H E).nox (zt st) fb):FnOk P w K mg base CX0 (k+1) f fd ps (spD K n (wg N.length fb)):=by
 refine F.ok S (fun vs H Q E h=>by rw[hn];exact h.1) fun cdv A outer s H vs Q E hr h=>⟨_,hbody cdv A outer s H E hr,?_⟩
 refine byc fun zG=>?_
 obtain⟨hl,ds,Fz,fh,tt,r,h⟩:=h
 refine zG ?_
 refine⟨H,Fz,Fz,yc N.length ds,VT fh tt r,?_⟩
 unfold wg at h
 cases q:fb (yc N.length ds) with
 |nx τ=>rw[q] at h;exact fun σ F' H' ff RR=>h .non F' H' RR.out (by simp only[Rep])
 |rt d=>rw[q] at h;exact fun v F' H' x rr=>h v F' H' x rr
 |ro d τ=>rw[q] at h;exact fun v σ F' H' ff RR rr=>h v F' H' RR.out rr
 |rb d τ=>rw[q] at h;exact h.elim
 |bk τ=>rw[q] at h;exact h.elim
 |ct τ=>rw[q] at h;exact h.elim
 |ex c=>rw[q] at h;exact h.elim
 |no=>rw[q] at h;exact h.elim
 |rs c τ=>rw[q] at h;exact h.elim
theorem FnD.to{CX:CXT}{f:Addr}{fd:FuncData}{ps:List Str}{k n:Nat}{g g':List D→Rs D}(F:FnOk P w K mg base CX k f fd ps (spD K n g))(h:∀ds d,ds.length=n→g' ds=.ok d→g ds=.ok d):FnOk P w K mg base CX k f fd ps (spD K n g'):=
 F.imp fun vs H Q E ⟨hl,ds,Fz,fh,tt,r,q⟩=>⟨hl,ds,Fz,fh,tt,r,by
  cases e:g' ds with
  |ok d=>rw[e] at q;rw[h ds d (by rw[r.length];exact hl) e];exact q
  |ex c=>rw[e] at q;exact q.elim
  |no=>rw[e] at q;exact q.elim⟩
end
section
variable{X:Cx}{pos:Pos}{e tg:Expr}{es:List Expr}{fe:FE}{fs:FA}
noncomputable def zv(g:List D→Rs D)(fs:FA):FE:=fun τ=>(fs τ).bind fun ds=>Vd (g ds)
theorem GR{k n:Nat}{f:Addr}{fd:FuncData}{ps:List Str}{g:List D→Rs D}{x:Str}{p:Pos}(F:FnOk X.prog X.w X.K X.mg X.base CX0 k f fd ps (spD X.K n g))(hr:Room k X.A)(hg:Gl X x)(hm:X.mg x=some (.ref f))(hk:keepIn X.K (.ref f)=true)(hb:Binds X.K fd ps [])
  (ha:PDA X (e::es) fs) (hn:(e::es).length=n) (hfs:∀τ ds,fs τ=.ok ds→ds.length=(e::es).length) (hdb:(x==("__debug__" : Str))=false:=by decide) (he:starEach (e::es) X.env=(false,eval e X.env)::starEach es X.env:=by rfl) (hpl:(backTo pos (starEach es X.env)).any (·.1)=false:=by rfl) :
  PDE X (.Call (.Name x p) (e::es) [] pos) (zv g fs):=
 PE.imp (W0 F hr hg hm hk hb .nil (E:=E0) Z9 ha hdb he hpl) fun σ H Q z_=>by
  refine byc fun zG=>?_
  obtain⟨Fz,τ,R,h⟩:=z_
  refine zG ?_
  have hb:=h.bind
  refine⟨Fz,τ,R,?_⟩
  cases q:fs τ with
  |no=>rw[q] at hb;exact hb
  |ex c=>rw[q] at hb;exact hb
  |ok ds=>
   rw[q] at hb
   intro vs F1 H1 x r
   rw[append_nil]
   refine⟨by rw[← r.length,hfs τ ds q,hn],ds,F1,x.fh,x.tt R.tt,r,?_⟩
   have hb:Ok X (Vd (g ds)) (Ev X.K Fz H Q):=hb
   cases z:g ds with
   |ok d=>rw[z] at hb;exact Ev.ext hb x
   |ex c=>rw[z] at hb;exact hb.elim
   |no=>rw[z] at hb;exact hb.elim
theorem zp(τ:DS)(ds:List D)(h:zg τ=.ok ds):ds.length=0:=by cases h;rfl
theorem zh{f:FE}{g:FA}{n:Nat}(hg:∀τ ds,g τ=.ok ds→ds.length=n)(τ:DS)(ds:List D)(h:za f g τ=.ok ds):ds.length=n+1:=by
 unfold za at h
 cases q:f τ with
 |no=>rw[q] at h;cases h
 |ex c=>rw[q] at h;cases h
 |ok d=>
  rw[q] at h
  cases q2:g τ with
  |no=>rw[q2] at h;cases h
  |ex c=>rw[q2] at h;cases h
  |ok r=>rw[q2] at h;cases h;simp[hg τ r q2]
noncomputable def WO(X:Cx)(f:Value)(g:List D→Rs D):Prop:=∃r,CallR X f r∧∀F H vs ds Q,Same F H→Reps X.K F ds vs→Ok X (g ds) (Ev X.K F H Q)→r vs H Q
noncomputable def yv(g:List D→Rs D)(fs:FA):FE:=fun τ=>(fs τ).bind g
theorem zU{id:String}{x:Str}{p:Pos}{g:List D→Rs D}(hc:WO X (.builtin id) g)(hg:Gl X x)(hm:X.mg x=none)(hv:bootBuiltins x=some (.builtin id))(ha:PDA X (e::es) fs)(hn:x ≠ "__name__" := by decide)(hdb:(x==("__debug__" : Str))=false:=by decide)
  (he:starEach (e::es) X.env=(false,eval e X.env)::starEach es X.env:=by rfl) (hpl:(backTo pos (starEach es X.env)).any (·.1)=false:=by rfl):PDE X (.Call (.Name x p) (e::es) [] pos) (yv g fs):=by
 obtain⟨r,h1,h2⟩:=hc
 exact PE.imp (L2.pe_callB h1 hg hm hv ha hn hdb he hpl) fun σ H Q z_=>by obtain⟨Fz,τ,R,h⟩:=z_;exact tAs.of R h.bind fun ds vs F1 H1 q x R1 rr=>h2 F1 H1 vs ds Q R1.fh rr (q.imp fun d e=>e.ext x)
theorem UN{id:String}{x:Str}{p:Pos}{g:List D→Rs D}(hc:WO X (.type id) g)(hg:Gl X x)(hm:X.mg x=none)(hv:bootBuiltins x=some (.type id))(ha:PDA X (e::es) fs)(hn:x ≠ "__name__" := by decide)(hdb:(x==("__debug__" : Str))=false:=by decide)
  (he:starEach (e::es) X.env=(false,eval e X.env)::starEach es X.env:=by rfl) (hpl:(backTo pos (starEach es X.env)).any (·.1)=false:=by rfl):PDE X (.Call (.Name x p) (e::es) [] pos) (yv g fs):=by
 obtain⟨r,h1,h2⟩:=hc
 exact PE.imp (L2.pe_callTy h1 hg hm hv ha hn hdb he hpl) fun σ H Q z_=>by obtain⟨Fz,τ,R,h⟩:=z_;exact tAs.of R h.bind fun ds vs F1 H1 q x R1 rr=>h2 F1 H1 vs ds Q R1.fh rr (q.imp fun d e=>e.ext x)
noncomputable def IxD(X:Cx)(op:D→D→Rs D):Prop:=∃r:R2,IxR X r∧∀F H x y dx dy Q,Same F H→Rep X.K F dx x→Rep X.K F dy y→Ok X (op dx dy) (Ev X.K F H Q)→r x y H Q
theorem zP{a b:Expr}{fa fb:FE}{op:D→D→Rs D}(hr:IxD X op)(ha:PDE X a fa)(hb:PDE X b fb)(hs:YM b:=by intro _ _;rfl):PDE X (.Subscript a b pos) (eOp op fa fb):=by
 obtain⟨r,h1,h2⟩:=hr
 exact PE.imp (GA h1 ha hb hs) (JC h2)
noncomputable def ixD:D→D→Rs D
 |.lst ds,.int k=>match atI ds k with
  |some d=>.ok d
  |none=>.no
 |.tup ds,.int k=>match atI ds k with
  |some d=>.ok d
  |none=>.no
 |.scr ns,.int k=>match atI ns k with
  |some d=>.ok (.int d)
  |none=>.no
 |.str x,.int k=>match atI x.cps.toList k with
  |some c=>if x.length≤sizeLine then .ok (.str ⟨#[c]⟩) else .no
  |none=>.no
 |_,_=>.no
theorem LM{α β:Type}{f:α→β}{xs:List α}{k:Int}{a:α}(h:atI xs k=some a):atI (xs.map f) k=some (f a):=by
 unfold atI at h ⊢
 rw[length_map]
 cases q:ixN xs.length k with
 |none=>rw[q] at h;cases h
 |some j=>
  rw[q] at h
  have h:xs[j]?=some a:=h
  show(xs.map f)[j]?=_
  rw[getElem?_map,h];rfl
theorem ye:IxD X ixD:=⟨_,zf6,fun F H x y dx dy Q fh r1 r2 h=>by
 cases dx with
 |lst ds=>
  cases dy with
  |int k=>
   simp only[Rep] at r1 r2;obtain⟨a,vs,rfl,q,t⟩:=r1;subst r2
   (delta ixD at h;dsimp only at h)
   cases z:atI ds k with
   |none=>rw[z] at h;exact h.elim
   |some d=>
    rw[z] at h
    obtain⟨v,z1,z2⟩:=ZJ t z
    exact .inl ⟨a,vs,k,v,rfl,rfl,SqL.of (fh _ _ q),z1,h v F H (Ext.refl fh) z2⟩
  |_=>exact h.elim
 |tup ds=>
  cases dy with
  |int k=>
   simp only[Rep] at r1 r2;obtain⟨a,vs,rfl,q,t⟩:=r1;subst r2
   (delta ixD at h;dsimp only at h)
   cases z:atI ds k with
   |none=>rw[z] at h;exact h.elim
   |some d=>
    rw[z] at h
    obtain⟨v,z1,z2⟩:=ZJ t z
    exact .inr (.inl ⟨a,vs,k,v,rfl,rfl,Same.seqT fh q,z1,h v F H (Ext.refl fh) z2⟩)
  |_=>exact h.elim
 |scr ns=>
  cases dy with
  |int k=>
   simp only[Rep] at r1 r2;obtain⟨a,rfl,q⟩:=r1;subst r2
   (delta ixD at h;dsimp only at h)
   cases z:atI ns k with
   |none=>rw[z] at h;exact h.elim
   |some d=>
    rw[z] at h
    exact .inl ⟨a,_,k,.int d,rfl,rfl,fh.seq q,LM z,h (.int d) F H (Ext.refl fh) (by simp only[Rep])⟩
  |_=>exact h.elim
 |str x=>
  cases dy with
  |int k=>
   simp only[Rep] at r1 r2;subst r1;subst r2
   (delta ixD at h;dsimp only at h)
   cases z:atI x.cps.toList k with
   |none=>rw[z] at h;exact h.elim
   |some c=>
    rw[z] at h
    obtain⟨z2,h⟩:=yY h
    exact .inr (.inr ⟨x,k,c,rfl,rfl,z2,z,h _ F H (Ext.refl fh) (by simp only[Rep])⟩)
  |_=>exact h.elim
 |_=>cases dy <;> exact h.elim⟩
end
mutual
noncomputable def y3:D→PyData
 |.non=>.none
 |.bl b=>.bool b
 |.int i=>.int i
 |.str x=>.str x
 |.lst ds=>.list (toPys ds)
 |.tup ds=>.tuple (toPys ds)
 |.scr ns=>.list (ns.map .int)
 |.raw _=>.none
 |.exc _=>.none
 |.dct _ _=>.none
noncomputable def toPys:List D→List PyData
 |[]=>[]
 |d::r=>y3 d::toPys r
end
mutual
noncomputable def xt:D→Bool
 |.lst ds=>plainDs ds
 |.tup ds=>plainDs ds
 |.raw _=>false
 |.exc _=>false
 |.dct _ _=>false
 |_=>true
noncomputable def plainDs:List D→Bool
 |[]=>true
 |d::r=>xt d&&plainDs r
end
theorem readsAll_ints{h:Heap}:∀{ns:List Int} {us:List Value},Vals (ns.map V.int) us→ReadsAll h us (ns.map .int) []
 |[],_,.nil=>.nil
 |n::ns,_,.cons r t=>by
  obtain⟨tk,rfl⟩:=r
  exact .cons (as:=[]) (bs:=[]) (.int n tk) (readsAll_ints t)
section
variable{X:Cx}{pins:List (Addr×Obj)}{σ:St}{F H:Hp}{s:Shared}
mutual
theorem vI(I:Inv X pins σ H s)(fh:Same F H):∀(d:D) {v:V} {u:Value},Rep X.K F d v→RelV v u→xt d=true→∃as,Reads s.heap u (y3 d) as
 |.non,v,u,r,rv,_=>by simp only[Rep] at r;subst r;cases rv;exact⟨[],.none⟩
 |.bl b,v,u,r,rv,_=>by simp only[Rep] at r;subst r;cases rv;exact⟨[],.bool b⟩
 |.int i,v,u,r,rv,_=>by simp only[Rep] at r;subst r;obtain⟨t,rfl⟩:=rv;exact⟨[],.int i t⟩
 |.str x,v,u,r,rv,_=>by simp only[Rep] at r;subst r;obtain⟨t,rfl⟩:=rv;exact⟨[],.str x t⟩
 |.lst ds,v,u,r,rv,hp=>by
  simp only[Rep] at r;obtain⟨a,vs,rfl,q,t⟩:=r
  cases rv
  refine byc fun zG=>?_
  obtain⟨its,rr,⟨o,n,e,c,_,dd⟩,_⟩:=I.list (SqL.of (K:=X.K) (fh _ _ q))
  obtain⟨as,ra⟩:=readss_of I fh ds t rr (by simpa only[xt] using hp)
  refine zG ?_
  exact⟨a::as,by rw[y3];exact .list e c dd (by simpa using ra)⟩
 |.tup ds,v,u,r,rv,hp=>by
  simp only[Rep] at r;obtain⟨a,vs,rfl,q,t⟩:=r
  cases rv
  refine byc fun zG=>?_
  obtain⟨its,rr,⟨o,e,c,n,dd⟩,_⟩:=I.tuple (Same.seqT fh q)
  obtain⟨as,ra⟩:=readss_of I fh ds t rr (by simpa only[xt] using hp)
  refine zG ?_
  exact⟨as,by rw[y3];exact .tuple e c dd (by simpa using ra)⟩
 |.scr ns,v,u,r,rv,hp=>by
  simp only[Rep] at r;obtain⟨a,rfl,q⟩:=r
  cases rv
  refine byc fun zG=>?_
  obtain⟨its,rr,⟨o,n,e,c,_,dd⟩,_⟩:=I.list (fh.seq q)
  refine zG ?_
  exact⟨[a],by rw[y3];exact .list e c dd (by simpa using readsAll_ints rr)⟩
 |.raw w,v,u,r,rv,hp=>by simp[xt] at hp
 |.exc w,v,u,r,rv,hp=>by simp[xt] at hp
 |.dct _ _,v,u,r,rv,hp=>by simp[xt] at hp
theorem readss_of(I:Inv X pins σ H s)(fh:Same F H):∀(ds:List D) {vs:List V} {us:List Value},Reps X.K F ds vs→Vals vs us→plainDs ds=true→∃as,ReadsAll s.heap us (toPys ds) as
 |[],vs,us,r,rv,_=>by simp only[Reps] at r;subst r;cases rv;exact⟨[],by rw[toPys];exact .nil⟩
 |d::ds,vs,us,r,rv,hp=>by
  simp only[Reps] at r
  refine byc fun zG=>?_
  obtain⟨v,r',rfl,q,t⟩:=r
  refine zG ?_
  simp only[plainDs,Bool.and_eq_true] at hp
  cases rv with
  |cons r1 r2=>
   obtain⟨as,h1⟩:=vI I fh d q r1 hp.1
   obtain⟨bs,h2⟩:=readss_of I fh ds t r2 hp.2
   exact⟨as++bs,by rw[toPys];exact .cons h1 h2⟩
end
end
noncomputable def okD(d:D):Bool:=xt d&&(y3 d).canLay0&&decide ((y3 d).depth≤60)
theorem jv{d:D}(h:okD d=true):xt d=true∧(y3 d).canLay0=true∧(y3 d).depth≤60:=by
 simpa[okD,and_assoc] using h
noncomputable def um(d e:D):Bool:=PyData.eqv (y3 d) (y3 e)
noncomputable def eqD:D→D→Rs D
 |.str x,.str y=>.ok (.bl (x==y))
 |.int x,.int y=>.ok (.bl (x==y))
 |d,e=>if okD d=true∧okD e=true then .ok (.bl (um d e)) else .no
noncomputable def neD:D→D→Rs D
 |.str x,.str y=>.ok (.bl (!(x==y)))
 |.int x,.int y=>.ok (.bl (!(x==y)))
 |d,e=>if okD d=true∧okD e=true then .ok (.bl (!um d e)) else .no
section
variable{X:Cx}
noncomputable def Jw(K:Frag)(b:D→D→Bool):R2:=fun x y H Q=>∃F d e,Same F H∧Rep K F d x∧Rep K F e y∧okD d=true∧okD e=true∧Q (.bl (b d e)) H
theorem Qs(hu:X.A.units+64<cLine):OpR X (compareOp .Eq) (Jw X.K um):=by
 intro pins s σ H x y v u Q I rx ry h
 refine byc fun zG=>?_
 obtain⟨F,d,e,fh,r1,r2,o1,o2,q⟩:=h
 obtain⟨p1,c1,e1⟩:=jv o1
 obtain⟨p2,c2,e2⟩:=jv o2
 obtain⟨as,h1⟩:=vI I fh d r1 rx p1
 obtain⟨bs,h2⟩:=vI I fh e r2 ry p2
 refine zG ?_
 exact SeqAt.compareEq_reads h1 h2 c1 c2 (by lia) ⟨.bl _,H,I,rfl,q⟩
theorem Qq(hu:X.A.units+64<cLine):OpR X (compareOp .NotEq) (Jw X.K fun d e=>!um d e):=by
 intro pins s σ H x y v u Q I rx ry h
 refine byc fun zG=>?_
 obtain⟨F,d,e,fh,r1,r2,o1,o2,q⟩:=h
 obtain⟨p1,c1,e1⟩:=jv o1
 obtain⟨p2,c2,e2⟩:=jv o2
 obtain⟨as,h1⟩:=vI I fh d r1 rx p1
 obtain⟨bs,h2⟩:=vI I fh e r2 ry p2
 refine zG ?_
 exact SeqAt.compareNe_reads h1 h2 c1 c2 (by lia) ⟨.bl _,H,I,rfl,q⟩
theorem xI(hu:X.A.units+64<cLine):OpD X (compareOp .Eq) eqD:=⟨_,op_eq.or (Qs hu),fun F H x y dx dy Q fh r1 r2 h=>by
 have gen:(Ok X (if okD dx=true∧okD dy=true then .ok (.bl (um dx dy)) else .no) (Ev X.K F H Q))→rEq x y H Q∨Jw X.K um x y H Q:=fun h=>by
  obtain⟨z,h⟩:=yY h
  exact .inr ⟨F,dx,dy,fh,r1,r2,z.1,z.2,h _ F H (Ext.refl fh) (by simp only[Rep])⟩
 cases dx with
 |str a=>
  cases dy with
  |str b=>
   simp only[Rep] at r1 r2;subst r1;subst r2
   exact .inl ⟨rfl,by rw[YK];exact h _ F H (Ext.refl fh) (by simp only[Rep])⟩
  |_=>exact gen h
 |int a=>
  cases dy with
  |int b=>
   simp only[Rep] at r1 r2;subst r1;subst r2
   exact .inl ⟨rfl,by rw[YL];exact h _ F H (Ext.refl fh) (by simp only[Rep])⟩
  |_=>exact gen h
 |_=>exact gen h⟩
theorem wI(hu:X.A.units+64<cLine):OpD X (compareOp .NotEq) neD:=⟨_,op_ne.or (Qq hu),fun F H x y dx dy Q fh r1 r2 h=>by
 have gen:(Ok X (if okD dx=true∧okD dy=true then .ok (.bl (!um dx dy)) else .no) (Ev X.K F H Q))→rNe x y H Q∨Jw X.K (fun d e=>!um d e) x y H Q:=fun h=>by
  obtain⟨z,h⟩:=yY h
  exact .inr ⟨F,dx,dy,fh,r1,r2,z.1,z.2,h _ F H (Ext.refl fh) (by simp only[Rep])⟩
 cases dx with
 |str a=>
  cases dy with
  |str b=>
   simp only[Rep] at r1 r2;subst r1;subst r2
   exact .inl ⟨rfl,by rw[YK];exact h _ F H (Ext.refl fh) (by simp only[Rep])⟩
  |_=>exact gen h
 |int a=>
  cases dy with
  |int b=>
   simp only[Rep] at r1 r2;subst r1;subst r2
   exact .inl ⟨rfl,by rw[YL];exact h _ F H (Ext.refl fh) (by simp only[Rep])⟩
  |_=>exact gen h
 |_=>exact gen h⟩
noncomputable def intOp(C:Int→Int→Bool)(g:Int→Int→D):D→D→Rs D
 |.int i,.int j=>if C i j=true then .ok (g i j) else .no
 |_,_=>.no
theorem JB{f:Value→Value→Sem Value}{C':Int→Int→Prop}{C:Int→Int→Bool}{gv:Int→Int→V}{g:Int→Int→D}(h:OpR X f (rI C' gv))(hc:∀i j,C i j=true→C' i j)(hg:∀F i j,Rep X.K F (g i j) (gv i j)):OpD X f (intOp C g):=
 ⟨_,h,fun F H x y dx dy Q fh r1 r2 q=>by
  cases dx with
  |int i=>
   cases dy with
   |int j=>
    simp only[Rep] at r1 r2;subst r1;subst r2
    obtain⟨z,q⟩:=yY q
    exact⟨i,j,rfl,rfl,hc i j z,q _ F H (Ext.refl fh) (hg F i j)⟩
   |_=>exact q.elim
  |_=>cases dy <;> exact q.elim⟩
noncomputable def Xv(g:Int→Int→D):D→D→Rs D
 |.int i,.int j=>.ok (g i j)
 |_,_=>.no
theorem Zt{f:Value→Value→Sem Value}{gv:Int→Int→V}{g:Int→Int→D}(h:OpR X f (rI0 gv))(hg:∀F i j,Rep X.K F (g i j) (gv i j)):OpD X f (Xv g):=
 ⟨_,h,fun F H x y dx dy Q fh r1 r2 q=>by
  cases dx with
  |int i=>
   cases dy with
   |int j=>
    simp only[Rep] at r1 r2;subst r1;subst r2
    exact⟨i,j,rfl,rfl,q _ F H (Ext.refl fh) (hg F i j)⟩
   |_=>exact q.elim
  |_=>cases dy <;> exact q.elim⟩
noncomputable def xw:=Xv fun i j=>.int (i-j)
theorem xH:OpD X (binaryOp .Sub) xw:=Zt zd2 fun _ _ _=>by simp only[Rep]
noncomputable def Vi:=intOp (fun _ j=>decide (0<j)) fun i j=>.int (i%j)
theorem jt:OpD X (binaryOp .Mod) Vi:=JB zd4 (fun i j h=>by simpa using h) fun _ _ _=>by simp only[Rep]
noncomputable def XE:=intOp (fun _ j=>decide (0<j∧j<1073741824)) fun i j=>.int (i / j)
theorem Zu:OpD X (binaryOp .FloorDiv) XE:=JB T3 (fun i j h=>by have h':0<j∧j<1073741824:=of_decide_eq_true h;exact h') fun _ _ _=>by simp only[Rep]
noncomputable def ltI:=Xv fun i j=>.bl (decide (i<j))
noncomputable def gtD:=Xv fun i j=>.bl (decide (j<i))
noncomputable def geD:=Xv fun i j=>.bl (decide (j≤i))
theorem GV:OpD X (compareOp .Lt) ltI:=Zt op_lt fun _ _ _=>by simp only[Rep]
theorem W5:OpD X (compareOp .Gt) gtD:=Zt op_gt fun _ _ _=>by simp only[Rep]
theorem zd1:OpD X (compareOp .GtE) geD:=Zt op_ge fun _ _ _=>by simp only[Rep]
noncomputable def zQ:D→D→Rs D
 |.int i,.int j=>.ok (.int (i+j))
 |.str i,.str j=>if i.length+j.length≤sizeLine then .ok (.str (i++j)) else .no
 |.lst i,.lst j=>if i.length+j.length≤sizeLine then .ok (.lst (i++j)) else .no
 |_,_=>.no
theorem zH:OpD X (binaryOp .Add) zQ:=⟨_,op_add.or (op_add_str.or zd6),fun F H x y dx dy Q fh r1 r2 q=>by
 cases dx with
 |int i=>
  cases dy with
  |int j=>
   simp only[Rep] at r1 r2;subst r1;subst r2
   exact .inl ⟨i,j,rfl,rfl,q _ F H (Ext.refl fh) (by simp only[Rep])⟩
  |_=>exact q.elim
 |str i=>
  cases dy with
  |str j=>
   simp only[Rep] at r1 r2;subst r1;subst r2
   obtain⟨z,q⟩:=yY q
   exact .inr (.inl ⟨i,j,rfl,rfl,z,q _ F H (Ext.refl fh) (by simp only[Rep])⟩)
  |_=>exact q.elim
 |lst i=>
  cases dy with
  |lst j=>
   simp only[Rep] at r1 r2
   refine byc fun zG=>?_
   obtain⟨a,vs,rfl,e1,t1⟩:=r1
   obtain⟨b,ws,rfl,e2,t2⟩:=r2
   obtain⟨z,q⟩:=yY q
   refine zG ?_
   refine .inr (.inr ⟨a,b,vs,ws,rfl,rfl,fh _ _ e1,fh _ _ e2,by rw[← t1.length,← t2.length];exact z,fun p hp=>q _ _ _ (Ext.new fh hp) ?_⟩)
   simp only[Rep]
   exact⟨p,vs++ws,rfl,zB,(t1.append t2).mono (yr (zX fh hp))⟩
  |_=>exact q.elim
 |_=>cases dy <;> exact q.elim⟩
noncomputable def vQ:D→D→Rs D
 |.int i,.int j=>if (-(18446744073709551616)<i∧i<18446744073709551616)∨(-(18446744073709551616)<j∧j<18446744073709551616) then .ok (.int (i*j)) else .no
 |.lst i,.int k=>if k<16777216∧-16777216<k∧i.length*k.toNat≤sizeLine then .ok (.lst (List.replicate k.toNat i).flatten) else .no
 |_,_=>.no
theorem wD:OpD X (binaryOp .Mult) vQ:=⟨_,op_mul.or zd3,fun F H x y dx dy Q fh r1 r2 q=>by
 cases dx with
 |int i=>
  cases dy with
  |int j=>
   simp only[Rep] at r1 r2;subst r1;subst r2
   obtain⟨z,q⟩:=yY q
   refine .inl ⟨i,j,rfl,rfl,?_,q _ F H (Ext.refl fh) (by simp only[Rep])⟩
   unfold CMul
   rcases z with z|z
   ·exact .inl (by lia)
   ·exact .inr (by lia)
  |_=>exact q.elim
 |lst i=>
  cases dy with
  |int k=>
   simp only[Rep] at r1 r2
   refine byc fun zG=>?_
   obtain⟨a,vs,rfl,e1,t1⟩:=r1
   subst r2
   obtain⟨z,q⟩:=yY q
   refine zG ?_
   refine .inr ⟨a,k,vs,rfl,rfl,fh _ _ e1,by lia,by lia,by rw[← t1.length];exact z.2.2,fun p hp=>q _ _ _ (Ext.new fh hp) ?_⟩
   simp only[Rep]
   exact⟨p,_,rfl,zB,(t1.rep k.toNat).mono (yr (zX fh hp))⟩
  |_=>exact q.elim
 |_=>cases dy <;> exact q.elim⟩
noncomputable def Jo(i j:Str):Bool:=!(Builtin.Str.occurrences j i 0 j.length 1).isEmpty
noncomputable def inD:D→D→Rs D
 |.str i,.str j=>.ok (.bl (Jo i j))
 |d,.lst xs=>if okD d=true∧okD (.lst xs)=true then .ok (.bl (xs.any fun y=>um y d)) else .no
 |d,.tup xs=>if okD d=true∧okD (.tup xs)=true then .ok (.bl (xs.any fun y=>um y d)) else .no
 |_,_=>.no
theorem Wi:∀xs:List D,toPys xs=xs.map y3:=by
 intro l_
 induction l_ with
 |nil=>
  exact rfl
 |cons d r ih_=>
  rw[toPys,ih_,map_cons]
theorem WM(xs:List D)(d:D):((toPys xs).any fun y=>PyData.eqv y (y3 d))=xs.any fun y=>um y d:=by
 rw[Wi,List.any_map];rfl
noncomputable def rInD(K:Frag)(neg:Bool):R2:=fun x y H Q=>∃F d e xs,Same F H∧Rep K F d x∧Rep K F e y∧okD d=true∧okD e=true∧(e=.lst xs∨e=.tup xs)∧Q (.bl (if neg then !(xs.any fun y=>um y d) else xs.any fun y=>um y d)) H
theorem Qr(hu:X.A.units+128<cLine):OpR X (compareOp .In) (rInD X.K false):=by
 intro pins s σ H x y v u Q I rx ry h
 refine byc fun zG=>?_
 obtain⟨F,d,e,xs,fh,r1,r2,o1,o2,he,q⟩:=h
 obtain⟨p1,c1,e1⟩:=jv o1
 obtain⟨p2,c2,e2⟩:=jv o2
 obtain⟨as,h1⟩:=vI I fh d r1 rx p1
 obtain⟨bs,h2⟩:=vI I fh e r2 ry p2
 refine zG ?_
 rcases he with rfl|rfl
 ·rw[y3] at h2 c2 e2
  refine SeqAt.in_list_reads h2 h1 (by simpa only[PyData.canLay0] using c2) c1 (by lia) ⟨.bl _,H,I,rfl,?_⟩
  rw[WM];exact q
 ·rw[y3] at h2 c2 e2
  refine SeqAt.in_tuple_reads h2 h1 (by simpa only[PyData.canLay0] using c2) c1 (by lia) ⟨.bl _,H,I,rfl,?_⟩
  rw[WM];exact q
theorem ZW(hu:X.A.units+128<cLine):OpD X (compareOp .In) inD:=⟨_,op_in_str.or (Qr hu),fun F H x y dx dy Q fh r1 r2 q=>by
 cases dy with
 |lst xs=>
  have q':Ok X (if okD dx=true∧okD (.lst xs)=true then .ok (.bl (xs.any fun y=>um y dx)) else .no) (Ev X.K F H Q):=by cases dx <;> exact q
  obtain⟨z,q⟩:=yY q'
  exact .inr ⟨F,dx,_,xs,fh,r1,r2,z.1,z.2,.inl rfl,q _ F H (Ext.refl fh) (by simp only[Rep];rfl)⟩
 |tup xs=>
  have q':Ok X (if okD dx=true∧okD (.tup xs)=true then .ok (.bl (xs.any fun y=>um y dx)) else .no) (Ev X.K F H Q):=by cases dx <;> exact q
  obtain⟨z,q⟩:=yY q'
  exact .inr ⟨F,dx,_,xs,fh,r1,r2,z.1,z.2,.inr rfl,q _ F H (Ext.refl fh) (by simp only[Rep];rfl)⟩
 |str j=>
  cases dx with
  |str i=>
   simp only[Rep] at r1 r2;subst r1;subst r2
   exact .inl ⟨i,j,rfl,rfl,q _ F H (Ext.refl fh) (by simp only[Rep,Jo])⟩
  |_=>exact q.elim
 |_=>cases dx <;> exact q.elim⟩
noncomputable def isN:D→Rs Bool
 |.non=>.ok true
 |.raw _=>.no
 |.exc _=>.no
 |.dct _ _=>.no
 |_=>.ok false
noncomputable def isD(d e:D):Rs D:=match e with
 |.non=>(isN d).bind fun b=>.ok (.bl b)
 |_=>.no
noncomputable def uB(d e:D):Rs D:=match e with
 |.non=>(isN d).bind fun b=>.ok (.bl (!b))
 |_=>.no
theorem JT{F:Hp}{d:D}{v:V}{P:Bool→Prop}(r:Rep X.K F d v)(h:Ok X (isN d) P):P (decide (v=.non)):=by
 cases d with
 |non=>simp only[Rep] at r;subst r;exact h
 |bl b=>simp only[Rep] at r;subst r;exact h
 |int b=>simp only[Rep] at r;subst r;exact h
 |str b=>simp only[Rep] at r;subst r;exact h
 |lst b=>simp only[Rep] at r;obtain⟨a,vs,rfl,_⟩:=r;exact h
 |tup b=>simp only[Rep] at r;obtain⟨a,vs,rfl,_⟩:=r;exact h
 |scr b=>simp only[Rep] at r;obtain⟨a,rfl,_⟩:=r;exact h
 |raw b=>exact h.elim
 |exc b=>exact h.elim
 |dct _ _=>exact h.elim
theorem zd0:OpD X (compareOp .Is) isD:=⟨_,zd5,fun F H x y dx dy Q fh r1 r2 q=>by
 cases dy with
 |non=>simp only[Rep] at r2;exact⟨r2,JT r1 (Ok.bind q) _ F H (Ext.refl fh) (by simp only[Rep])⟩
 |_=>exact q.elim⟩
theorem Ws:OpD X (compareOp .IsNot) uB:=⟨_,T2,fun F H x y dx dy Q fh r1 r2 q=>by
 cases dy with
 |non=>simp only[Rep] at r2;have q':Ok X ((isN dx).bind fun b=>Rs.ok (D.bl (!b))) (Ev X.K F H Q):=q;have q2:=JT (P:=fun b=>Ok X (Rs.ok (D.bl (!b))) (Ev X.K F H Q)) r1 (Ok.bind q');exact⟨r2,q2 _ F H (Ext.refl fh) (by simp only[Rep])⟩
 |_=>exact q.elim⟩
noncomputable def xh(fa:FE):FE:=fun τ=>(fa τ).bind fun d=>match d with
 |.int i=>.ok (.int (-i))
 |_=>.no
theorem x0{a:Expr}{pos:Pos}{fa:FE}(ha:PDE X a fa):PDE X (.UnaryOp .USub a pos) (xh fa):=
 PE.imp (pe_un za1 ha) fun σ H Q z_=>by
  refine byc fun zG=>?_
  obtain⟨F,τ,R,h⟩:=z_
  refine zG ?_
  refine tE.of R h.bind fun d v F1 H1 g x R1 r=>?_
  cases d with
  |int i=>simp only[Rep] at r;exact⟨i,r,g _ F1 H1 x (by simp only[Rep])⟩
  |_=>exact g.elim
end
noncomputable def yX(env:Env)(cs:List (Str×Addr))(y:Str×NameKind):List (Str×Addr):=if y.2==NameKind.free then (y.1,(env.cells.lookup y.1).getD 0)::cs else cs
noncomputable def wA(scope:Scope)(env:Env):List (Str×Addr):=scope.names.foldl (yX env) []
theorem v8{scope:Scope}{env:Env}(h:∀y∈scope.names,y.2=.free→(env.cells.lookup y.1).isSome=true):closureFor scope env=pure (wA scope env):=by
 unfold closureFor wA
 generalize scope.names=names at h
 have gen:∀(cs:List (Str×Addr)),(forIn names cs fun x r=>(do
   if (x.2==NameKind.free)=true then do
    let c ← cellOf env x.1
    pure PUnit.unit
    pure (ForInStep.yield ((x.1,c)::r))
   else do
    pure PUnit.unit
    pure (ForInStep.yield r)):Sem (List (Str×Addr)))=pure (names.foldl (yX env) cs):=by
  induction names with
  |nil=>intro cs;rfl
  |cons y r ih=>
   intro cs
   rw[List.forIn_cons,foldl_cons]
   by_cases hk:y.2=.free
   ·obtain⟨c,hc⟩:=Option.isSome_iff_exists.mp (h y mem_cons_self hk)
    have e:yX env cs y=(y.1,c)::cs:=by simp[yX,hk,hc]
    rw[e,← ih (fun z hz=>h z (mem_cons_of_mem _ hz))]
    simp only[hk,beq_self_eq_true,if_true,cellOf,hc]
    rfl
   ·have hb:(y.2==NameKind.free)=false:=by simpa using hk
    have e:yX env cs y=cs:=by simp[yX,hb]
    rw[e,← ih (fun z hz=>h z (mem_cons_of_mem _ hz))]
    simp only[hb,Bool.false_eq_true,if_false]
    rfl
 show((forIn names ([]:List (Str×Addr)) fun x r=>(do
   if (x.2==NameKind.free)=true then do
    let c ← cellOf env x.1
    pure PUnit.unit
    pure (ForInStep.yield ((x.1,c)::r))
   else do
    pure PUnit.unit
    pure (ForInStep.yield r)):Sem (List (Str×Addr))) >>= fun s=>pure s)=_
 rw[gen []]
 rfl
theorem Yg{env:Env}{x:Str}:∀{names:List (Str×NameKind)} {cs:List (Str×Addr)} {c:Addr},(names.foldl (yX env) cs).lookup x=some c→cs.lookup x=some c∨(∃y∈names,y.1=x∧y.2=.free∧c=(env.cells.lookup x).getD 0)
 |[],cs,c,h=>.inl h
 |y::r,cs,c,h=>by
  rw[foldl_cons] at h
  rcases Yg h with q|⟨z,hz,e⟩
  ·by_cases hk:y.2=.free
   ·have e:yX env cs y=(y.1,(env.cells.lookup y.1).getD 0)::cs:=by simp[yX,hk]
    rw[e,lookup_cons] at q
    by_cases hx:x=y.1
    ·subst hx
     simp at q
     exact .inr ⟨y,mem_cons_self,rfl,hk,q.symm⟩
    ·have hb:(x==y.1)=false:=by simpa using hx
     rw[hb] at q
     exact .inl q
   ·have hb:(y.2==NameKind.free)=false:=by simpa using hk
    have e:yX env cs y=cs:=by simp[yX,hb]
    rw[e] at q
    exact .inl q
  ·exact .inr ⟨z,mem_cons_of_mem _ hz,e⟩
theorem jg{env:Env}{x:Str}:∀{names:List (Str×NameKind)} {cs:List (Str×Addr)},((∃y∈names,y.1=x∧y.2=.free)∨∃c,cs.lookup x=some c)→∃c,(names.foldl (yX env) cs).lookup x=some c
 |[],cs,h=>by
  rcases h with ⟨y,hy,_⟩|h
  ·cases hy
  ·exact h
 |y::r,cs,h=>by
  rw[foldl_cons]
  refine jg ?_
  by_cases hk:y.2=.free
  ·have e:yX env cs y=(y.1,(env.cells.lookup y.1).getD 0)::cs:=by simp[yX,hk]
   rw[e]
   by_cases hx:x=y.1
   ·subst hx;exact .inr ⟨(env.cells.lookup y.1).getD 0,by rw[lookup_cons];simp⟩
   ·have hb:(x==y.1)=false:=by simpa using hx
    rcases h with ⟨z,hz,e1,e2⟩|⟨c,hc⟩
    ·rcases mem_cons.mp hz with rfl|hz
     ·exact absurd e1.symm hx
     ·exact .inl ⟨z,hz,e1,e2⟩
    ·exact .inr ⟨c,by rw[lookup_cons,hb];exact hc⟩
  ·have hb:(y.2==NameKind.free)=false:=by simpa using hk
   have e:yX env cs y=cs:=by simp[yX,hb]
   rw[e]
   rcases h with ⟨z,hz,e1,e2⟩|h
   ·rcases mem_cons.mp hz with rfl|hz
    ·exact absurd e2 hk
    ·exact .inl ⟨z,hz,e1,e2⟩
   ·exact .inr h
noncomputable def _root_.L2.Cx.comp(X:Cx)(scope:Scope)(N:List Str)(s:Shared)(H:Hp)(C:Addr)(fp:List Addr):Cx:=
 { prog:=X.prog,w:=X.w,K:=X.K,mg:=X.mg,base:=X.base,A:=X.A,N:=N,s₀:=s,H₀:=H,env:=compEnvC scope (wA scope X.env) C X.env,outer:=X.stack,stack:=X.stack,ex:=fp,fn:=fun _=>false,calm:=X.calm,pn:=[],xe:=fun _ _=>False }
structure xX(X:Cx)(scope:Scope):Prop where
 kind:scope.kind=.function
 nocell:∀y∈scope.names,y.2≠.cell
 locs:∀y∈scope.names,y.2=.local→scope.names.lookup y.1=some .local
 free:∀y∈scope.names,y.2=.free→X.env.kindOf y.1=some .cell∨X.env.kindOf y.1=some .free
theorem vn{env:Env}:∀{names:List (Str×NameKind)} {x:Str},((names.map fun (n,k)=>if (k==NameKind.free&&env.scope.kind == .function&&env.kindOf n==some .cell) then (n,NameKind.cell) else (n,k)).lookup x=some .cell ∨
  (names.map fun (n,k)=>if (k==NameKind.free&&env.scope.kind == .function&&env.kindOf n==some .cell) then (n,NameKind.cell) else (n,k)).lookup x=some .free)→(∀y∈names,y.2≠.cell)→∃y∈names,y.1=x∧y.2=.free
 |[],_,h,_=>by rcases h with h|h <;> simp at h
 | (n,k)::r,x,h,hc=>by
  have hr:∀y∈r,y.2≠.cell:=fun y hy=>hc y (mem_cons_of_mem _ hy)
  rw[map_cons] at h
  by_cases hx:x=n
  ·subst hx
   by_cases hk:k=.free
   ·exact⟨_,mem_cons_self,rfl,hk⟩
   ·have hb:(k==NameKind.free)=false:=by simpa using hk
    have hck:k≠.cell:=hc (x,k) mem_cons_self
    simp only[hb,Bool.false_and,Bool.false_eq_true,if_false,lookup_cons,beq_self_eq_true] at h
    rcases h with h|h
    ·exact absurd (Option.some.inj h) hck
    ·exact absurd (Option.some.inj h) hk
  ·have hb:(x==n)=false:=by simpa using hx
   have step:∀q:Str×NameKind,q.1=n→((q::(r.map fun (n,k)=>if (k==NameKind.free&&env.scope.kind == .function&&env.kindOf n==some .cell) then (n,NameKind.cell) else (n,k))).lookup x)=((r.map fun (n,k)=>if (k==NameKind.free&&env.scope.kind == .function&&env.kindOf n==some .cell) then (n,NameKind.cell) else (n,k)).lookup x):=fun q hq=>by
    obtain⟨q1,q2⟩:=q
    simp only at hq
    subst hq
    rw[lookup_cons,hb]
   have h':((r.map fun (n,k)=>if (k==NameKind.free&&env.scope.kind == .function&&env.kindOf n==some .cell) then (n,NameKind.cell) else (n,k)).lookup x=some .cell∨(r.map fun (n,k)=>if (k==NameKind.free&&env.scope.kind == .function&&env.kindOf n==some .cell) then (n,NameKind.cell) else (n,k)).lookup x=some .free):=by
    rcases h with h|h
    ·left;exact(step _ (by show(if (k==NameKind.free&&env.scope.kind == .function&&env.kindOf n==some .cell)=true then (n,NameKind.cell) else (n,k)).1=n;split <;> rfl)).symm.trans h
    ·right;exact(step _ (by show(if (k==NameKind.free&&env.scope.kind == .function&&env.kindOf n==some .cell)=true then (n,NameKind.cell) else (n,k)).1=n;split <;> rfl)).symm.trans h
   obtain⟨y,hy,e⟩:=vn h' hr
   exact⟨y,mem_cons_of_mem _ hy,e⟩
theorem uu{env:Env}:∀{names:List (Str×NameKind)} {x:Str},names.lookup x=some .free→¬ (names.map fun (n,k)=>if (k==NameKind.free&&env.scope.kind == .function&&env.kindOf n==some .cell) then (n,NameKind.cell) else (n,k)).lookup x=some .local
 |[],_,h=>by simp at h
 | (n,k)::r,x,h=>by
  rw[map_cons]
  show ¬ List.lookup x ((if (k==NameKind.free&&env.scope.kind == .function&&env.kindOf n==some .cell)=true then (n,NameKind.cell) else (n,k))::_)=_
  rw[lookup_cons] at h
  by_cases hx:x=n
  ·subst hx
   simp only[beq_self_eq_true] at h
   have hk:k=.free:=Option.some.inj h
   subst hk
   split <;> simp[lookup_cons]
  ·have hb:(x==n)=false:=by simpa using hx
   rw[hb] at h
   split
   ·rw[lookup_cons,hb];exact uu h
   ·rw[lookup_cons,hb];exact uu h
section
variable{X:Cx}{scope:Scope}{N':List Str}
theorem Z6(S:xX X scope)(ok:X.Ok){x:Str}{c:Addr}(h:(wA scope X.env).lookup x=some c):X.env.cells.lookup x=some c:=by
 rcases Yg h with q|⟨y,hy,e1,e2,e3⟩
 ·simp at q
 ·subst e1
  obtain⟨c',hc'⟩:=ok.has y.1 (S.free y hy e2)
  rw[hc'] at e3 ⊢
  rw[e3];rfl
theorem MW{pins:List (Addr×Obj)}{σ σ':St}{H:Hp}{s:Shared}{h1:Heap}{fp:List Addr}{t:Nat}(S:xX X scope)(I:Inv X pins σ H s)(hfp:∀b∈fp,VD X pins H b)(hlt:∀b∈fp,b<s.heap.objs.size)
  (hn:h1.Ns s.heap.objs.size fun _=>none) (hsb:∀b o,s.heap.get? b=some o→h1.get? b=some o) (hl:σ'.length=N'.length)
  (hσ:∀(i:Nat) (v:V),σ'[i]?=some (some v)→∃(x:Str) (j:Nat),N'[i]?=some x∧X.N[j]?=some x∧σ[j]?=some (some v)∧scope.names.lookup x=some .free) :
  Inv (X.comp scope N' s H s.heap.objs.size fp) [] σ' H { s with heap:=h1,toks:=t }:=by
 have hH:H s.heap.objs.size=none:=I.hok.fresh (le_refl _)
 have cl:∀{x c},(wA scope X.env).lookup x=some c→X.env.cells.lookup x=some c:=fun h=>Z6 S I.ok h
 have kept:∀{c v},s.heap.IsCell c v→h1.IsCell c v:=fun ⟨o,e,d⟩=>⟨o,hsb _ o e,d⟩
 refine⟨⟨I.ok.mod,S.kind,I.ok.glob,I.ok.blt,le_refl _,fun x y c e1 e2=>I.ok.inj x y c (cl e1) (cl e2),fun x hx=>?_,fun x c hf _=>absurd hf (by simp[Cx.comp]),I.ok.hd,I.ok.frames,.inl rfl,fun b hb=>?_,I.bs,le_trans I.ok.bsz I.sz,fun b o e hb=>?_,fun b hb hs=>?_,I.stack,I.stkFree⟩,
  I.os.symm ▸ rfl,I.bare,Un.kept hsb,⟨_,hn,fun i x v e1 e2 e3=>?_⟩,fun x c e=>?_,hH,fun x c e=>I.freeC x c (cl e),fun p hp=>absurd (show p∈([]:List (Addr×Obj)) from hp) (by simp),I.hok.kept hsb,hl⟩
 ·have hx:(relabel scope X.env).names.lookup x=some .cell∨(relabel scope X.env).names.lookup x=some .free:=hx
  exact jg (.inl (vn hx S.nocell))
 ·have hb:b∈fp:=hb
  refine⟨ne_of_lt (hlt b hb),fun x c e=>(hfp b hb).2.2.2.2.1 x c (cl e)⟩
 ·have hb:b∈fp:=hb
  rcases (hfp b hb).2.2.2.1 with z|z
  ·exact I.ok.noex b o e z
  ·exact absurd (lt_of_lt_of_le (Heap.lt_size e) (le_trans I.ok.bsz z)) (lt_irrefl _)
 ·have hb:b∈fp:=hb
  refine byc fun zG=>?_
  obtain⟨_,f1,f2,_⟩:=hfp b hb
  refine zG ?_
  rcases mem_cons.mp (I.stkSub b hs) with z|z
  ·exact f1 z
  ·exact f2 z
 ·refine byc fun zG=>?_
  obtain⟨x',j,e4,e5,e6,e9⟩:=hσ i v e2
  refine zG ?_
  have hy:=PySem.mem_of_lookup e9
  have e1':N'[i]?=some x:=e1
  rw[e1'] at e4;cases e4
  have kd:=S.free _ hy rfl
  refine byc fun zG=>?_
  obtain⟨m,hm,hl⟩:=I.loc
  obtain⟨u,ru,lk⟩:=hl j x v e5 e6 (kd.elim (fun z=>.inr (.inl z)) fun z=>.inr (.inr z))
  refine zG ?_
  refine⟨u,ru,?_⟩
  rcases lk with ⟨z,_⟩|⟨z,c,hc,hcell⟩
  ·rcases kd with k|k <;> rw[k] at z <;> cases z
  ·obtain⟨c',hc'⟩:=jg (env:=X.env) (names:=scope.names) (cs:=[]) (x:=x) (.inl ⟨_,hy,rfl,rfl⟩)
   have:=cl hc'
   rw[hc] at this;cases this
   have e3':(relabel scope X.env).names.lookup x=some .local∨(relabel scope X.env).names.lookup x=some .cell∨(relabel scope X.env).names.lookup x=some .free:=e3
   rcases e3' with q|q|q
   ·exact absurd q (uu e9)
   ·exact .inr ⟨.inl q,c,hc',kept hcell⟩
   ·exact .inr ⟨.inr q,c,hc',kept hcell⟩
 ·obtain⟨v,z⟩:=I.cell x c (cl e)
  exact⟨v,kept z⟩
end
theorem QN{prog:Program}{w:World}{A:Around}{R:Result→Shared→Prop}{s:Shared}{elt target iter:Expr}{ifs:List Expr}{scope:Scope}{pos:Pos}{it acc:Value}{env:Env}(I:Nat→Shared→Prop)
  (turn:∀n s,I n s→wpAny (model prog w) A (pyNext it) (fun r s₁=>match r with
   |none=>R (.ok .next) s₁
   |some v=>wpAny (model prog w) A (letOwnedTupleGo target it v) (fun _ s0=>wpAny (model prog w) A (assign target env v) (fun _ s₂=>
     wpAny (model prog w) A (forIn ifs true fun c r=>if r=true then do let ok ← isTrue c env (eval c env);pure (ForInStep.yield ok) else pure (ForInStep.yield r)) (fun ok s₃=>
      if ok=true then wpAny (model prog w) A (eval elt env) (fun x s₄=>
       wpAny (model prog w) A (call (.builtin "list.append") [acc,x]) (fun _ s₅=>∃m,m<n∧I m s₅) (fun _ _=>False) s₄) (fun _ _=>False) s₃
      else ∃m,m<n∧I m s₃) (fun _ _=>False) s₂) (fun _ _=>False) s0) (fun _ _=>False) s₁) (fun _ _=>False) s)
  (n:Nat) (h:I n s) :
  codeAny (model prog w) A (.compLoop (.ListComp elt [⟨target,iter,ifs,0⟩] scope pos) 0 it acc env) R s:=by
 refine codeAny_loop rfl I (fun n s hI=>?_) n h
 show wpAny _ A ((compTurn (.ListComp elt [⟨target,iter,ifs,0⟩] scope pos) 0 it acc env).onRaise (fun x=>do noteFrame x env;theTreesLotGoes x)) _ _ s
 refine wpAny_noted ?_
 rw[compTurn_list]
 refine wpAny_bind (wpAny_standAt (wpAny_bind (wpAny_mono (turn n s hI) (fun r s₁ h₁=>?_) fun _ _ h'=>h'.elim)))
 cases r with
 |none=>exact wpAny_pure h₁
 |some v=>
  refine wpAny_bind (wpAny_mono h₁ (fun _ s0 h0=>?_) fun _ _ h'=>h'.elim)
  refine wpAny_bind (wpAny_mono h0 (fun _ s₂ h₂=>wpAny_bind (wpAny_mono h₂ (fun ok s₃ h₃=>?_) fun _ _ h'=>h'.elim)) fun _ _ h'=>h'.elim)
  cases ok with
  |false=>exact wpAny_pure ⟨rfl,h₃⟩
  |true=>
   exact wpAny_bind (wpAny_bind (wpAny_mono h₃ (fun x s₄ h₄=>wpAny_bind (wpAny_mono h₄ (fun _ s₅ h₅=>wpAny_pure (wpAny_pure ⟨rfl,h₅⟩)) fun _ _ h'=>h'.elim)) fun _ _ h'=>h'.elim))
theorem G1{M:Model}{A:Around}{env:Env}{Q:Bool→Shared→Prop}{E:Value→Shared→Prop}{s:Shared}(h:Q true s) :
  wpAny M A (forIn ([]:List Expr) true fun c r=>if r=true then do let ok ← isTrue c env (eval c env);pure (ForInStep.yield ok) else pure (ForInStep.yield r)) Q E s:=wpAny_pure h
theorem GW{M:Model}{A:Around}{env:Env}{Q:Bool→Shared→Prop}{E:Value→Shared→Prop}{s:Shared}{c:Expr}(h:wpAny M A (isTrue c env (eval c env)) Q E s) :
  wpAny M A (forIn [c] true fun c r=>if r=true then do let ok ← isTrue c env (eval c env);pure (ForInStep.yield ok) else pure (ForInStep.yield r)) Q E s:=by
 rw[List.forIn_cons]
 simp only[if_true]
 refine wpAny_bind (wpAny_bind (wpAny_mono h (fun b s' q=>wpAny_pure ?_) fun _ _ e=>e))
 exact wpAny_pure q
noncomputable def PTs(Y:Cx)(ifs:List Expr)(t:TT):Prop:=∀(pins:List (Addr×Obj)) (s:Shared) (σ:St) (H:Hp) (Q:Bool→Hp→Prop),Inv Y pins σ H s→t σ H Q →
 wpAny (model Y.prog Y.w) Y.A (forIn ifs true fun c r=>if r=true then do let ok ← isTrue c Y.env (eval c Y.env);pure (ForInStep.yield ok) else pure (ForInStep.yield r)) (TP Y pins σ Q) Y.xe s
theorem TF{Y:Cx}:PTs Y [] (fun _ H Q=>Q true H):=fun pins s σ H Q I h=>G1 ⟨H,I,h⟩
theorem TD{Y:Cx}{c:Expr}{t:TT}(h:PT Y c t):PTs Y [c] t:=fun pins s σ H Q I q=>GW (h pins s σ H Q I q)
noncomputable def Q5(s0:St→St)(wi:TI)(g:TG)(ti:TT)(te:TE):TE:=fun σ H Q=>wi σ H fun J H1=>∀acc,H1 acc=none→∃W:Nat→Nat→St→Hp→Prop,(∃m,W 0 m (s0 σ) (upd H1 acc (.lst [])))∧∀i m σ1 H,W i m σ1 H →
 (J.stop i H∧Q (.ref acc) H)∨(J.go i H∧∀x H',J.yld i H x H'→g x σ1 H' fun σ2 H2=>ti σ2 H2 fun b H3=>
  if b=true then te σ2 H3 fun y H4=>∃ys,H4 acc=some (.lst ys)∧ys.length<sizeLine∧∃m',m'<m∧W (i+1) m' σ2 (upd H4 acc (.lst (ys++[y]))) else ∃m',m'<m∧W (i+1) m' σ2 H3)
section
variable{X:Cx}{scope:Scope}{N':List Str}{tg iter elt:Expr}{ifs:List Expr}{pos:Pos}{wi:TI}{g:TG}{ti:TT}{te:TE}{s0:St→St}
theorem Lp{P:Program}{w:World}{H:Hp}{h h':Heap}{C:Addr}(ok:HOk P w H h)(hC:H C=none)(k:∀b o,b≠C→h.get? b=some o→h'.get? b=some o):HOk P w H h':=fun b u e=>by
 refine(ok b u e).stay (fun c v hc q=>k c v ?_ q) (fun _ q=>q) fun _ _ q=>q
 rintro rfl
 rcases hc with z|z
 ·subst z;rw[hC] at e;cases e
 ·rw[hC] at z;cases z
theorem XJ{pins:List (Addr×Obj)}{σ:St}{H:Hp}{s:Shared}{QQ:V→Hp→Prop}{J:It}{fp:List Addr}{it acc:Addr}{tn:Nat→Heap→Prop}{RR:Addr→Result→Shared→Prop}{E:Value→Shared→Prop}{W:Nat→Nat→St→Hp→Prop}{m0:Nat}
  (S:xX X scope) (hc:X.calm=true) (hl:(s0 σ).length=N'.length)
  (hσ:∀(i:Nat) (v:V),(s0 σ)[i]?=some (some v)→∃(x:Str) (j:Nat),N'[i]?=some x∧X.N[j]?=some x∧σ[j]?=some (some v)∧scope.names.lookup x=some .free)
  (hg:∀s H C fp,PG (X.comp scope N' s H C fp) tg g) (ht:∀s H C fp,PTs (X.comp scope N' s H C fp) ifs ti) (he:∀s H C fp,PE (X.comp scope N' s H C fp) elt te)
  (I:Inv X pins σ H s) (T:Uv X.prog X.w X.K tg J fp it tn) (st:tn 0 s.heap) (hfp:∀b∈fp,VD X pins H b) (hlt:∀b∈fp,b<s.heap.objs.size) (hacc:acc<s.heap.objs.size)
  (w0:W 0 m0 (s0 σ) H) (turn:∀i m σ1 H,W i m σ1 H→(J.stop i H∧QQ (.ref acc) H)∨(J.go i H∧∀x H',J.yld i H x H'→g x σ1 H' fun σ2 H2=>ti σ2 H2 fun b H3=>
    if b=true then te σ2 H3 fun y H4=>∃ys,H4 acc=some (.lst ys)∧ys.length<sizeLine∧∃m',m'<m∧W (i+1) m' σ2 (upd H4 acc (.lst (ys++[y]))) else ∃m',m'<m∧W (i+1) m' σ2 H3))
  (hRR:∀s',(∃m,s'.heap.Ns s.heap.objs.size m)→(∀h',Heap.SameBut s.heap.objs.size s'.heap h'→EP X pins σ (fun v H'=>QQ v H'∧H' s.heap.objs.size=none) (.ref acc) { s' with heap:=h' })→RR s.heap.objs.size (.ok .next) s') :
  wpAny (model X.prog X.w) X.A (newFunctionEnv scope X.env.globals (wA scope X.env) [] X.env.qual none .none (some X.env)) (fun cenv s₄=>
   codeAny (model X.prog X.w) X.A (.compStart (.ListComp elt [⟨tg,iter,ifs,0⟩] scope pos) 0 (.ref it) (.ref acc) { cenv with scope:=relabel scope X.env }) (RR cenv.locals) s₄) E s:=by
 refine wpAny_newFunctionEnv S.nocell (by intro y hy;simp at hy) (fun h1 hns hsb=>?_) S.kind
 have keep3:∀b o,s.heap.get? b=some o→h1.get? b=some o:=fun b o e=>hsb.extBut b o (ne_of_lt (Heap.lt_size e)) (get?_push_of_some _ e)
 have Y0:Inv (X.comp scope N' s H s.heap.objs.size fp) [] (s0 σ) H { s with heap:=h1,toks:=s.toks+([]:List (Str×Value)).length }:=MW S I hfp hlt hns keep3 hl hσ
 have fpY:∀{H':Hp},(∀b∈fp,H' b=none)→∀b∈fp,VD (X.comp scope N' s H s.heap.objs.size fp) [] H' b:=fun {H'} hn b hb=>by
  refine byc fun zG=>?_
  obtain⟨f0,f1,f2,f3,f4,f5⟩:=hfp b hb
  refine zG ?_
  refine⟨hn b hb,ne_of_lt (hlt b hb),fun z=>?_,.inl hb,fun x c e=>f4 x c (Z6 S I.ok e),fun p hp=>absurd (show p∈([]:List (Addr×Obj)) from hp) (by simp)⟩
  rcases mem_cons.mp (I.stkSub b z) with q|q
  ·exact f1 q
  ·exact f2 q
 have st1:tn 0 h1:=T.keep _ _ _ st fun b hb o e=>keep3 b o e
 have loop:∀s3:Shared,s3 = { s with heap:=h1,toks:=s.toks+([]:List (Str×Value)).length } →
   codeAny (model X.prog X.w) X.A (.compLoop (.ListComp elt [⟨tg,iter,ifs,0⟩] scope pos) 0 (.ref it) (.ref acc) (X.comp scope N' s H s.heap.objs.size fp).env) (RR s.heap.objs.size) s3:=by
  rintro s3 rfl
  refine QN (fun n s'=>∃i σ' H',Inv (X.comp scope N' s H s.heap.objs.size fp) [] σ' H' s'∧tn i s'.heap∧(∀b∈fp,H' b=none)∧W i n σ' H') ?_ m0 ⟨0,s0 σ,H,Y0,st1,fun b hb=>(hfp b hb).1,w0⟩
  rintro n s4 ⟨i,σ4,H4,I4,st4,fr4,w4⟩
  rcases turn i n σ4 H4 w4 with ⟨stop,qn⟩|⟨go,step⟩
  ·refine thn (T.done (X.comp scope N' s H s.heap.objs.size fp) rfl rfl rfl hc i [] s4 σ4 H4 _ I4 (fpY fr4) st4 stop) fun r s5 z_=>?_
   refine byc fun zG=>?_
   obtain⟨hr,I5⟩:=z_
   subst hr
   obtain⟨m5,n5,_⟩:=id I5.loc
   refine zG ?_
   have hC:H4 s.heap.objs.size=none:=I5.free
   refine hRR s5 ⟨m5,n5⟩ fun h' sb=>⟨.ref acc,H4,?_,rfl,qn,hC⟩
   refine I.call' (s':={ s5 with heap:=h' }) (ch:=fp) I5.os ⟨fun b o e n hb hx=>?_,fun b o e n hb hx=>?_,fun b o e n hx=>I5.base.free b o e n hx,fun b o e hx=>?_,I5.base.tups,I5.base.frzs,I5.base.tbls⟩ (Lp I5.hok hC fun b o hb e=>(sb.2 b hb).trans e) I5.bare fun b hb=>?_
   ·exact(sb.2 b (ne_of_lt (Heap.lt_size e))).trans (I5.base.keep b o e n hb hx)
   ·obtain⟨sl,q⟩:=I5.base.slot b o e n hb hx
    exact⟨sl,(sb.2 b (ne_of_lt (Heap.lt_size e))).trans q⟩
   ·obtain⟨o',q⟩:=I5.base.there b o e hx
    exact⟨o',(sb.2 b (ne_of_lt (Heap.lt_size e))).trans q⟩
   ·refine byc fun zG=>?_
    obtain⟨f0,f1,f2,f3,f4,f5⟩:=hfp b hb
    refine zG ?_
    exact⟨f3,f1,f4,f5⟩
  ·refine thn (T.item (X.comp scope N' s H s.heap.objs.size fp) rfl rfl rfl hc i [] s4 σ4 H4 _ I4 (fpY fr4) st4 go) fun r s5 z_=>?_
   obtain⟨u,hr,h5⟩:=z_
   subst hr
   refine thn h5 fun _ s6 z_=>?_
   refine byc fun zG=>?_
   obtain⟨x,H6,I6,r6,y6,st6,fr6⟩:=z_
   refine zG ?_
   have I6':=I6.pinned (fpY fr6) (T.obj _ _ st6)
   refine thn (hg _ _ _ _ _ s6 σ4 H6 x u _ I6' r6 (step x H6 y6)) fun _ s7 z_=>?_
   refine byc fun zG=>?_
   obtain⟨σ7,H7,I7,q7⟩:=z_
   refine zG ?_
   refine thn (ht _ _ _ _ _ s7 σ7 H7 _ I7 q7) fun ok s8 z_=>?_
   obtain⟨H8,I8,q8⟩:=z_
   have again:∀{s9:Shared} {H9:Hp} {m':Nat},Inv (X.comp scope N' s H s.heap.objs.size fp) ([]++Y1 fp s6.heap) σ7 H9 s9→m'<n→W (i+1) m' σ7 H9→∃m,m<n∧∃i σ' H',Inv (X.comp scope N' s H s.heap.objs.size fp) [] σ' H' s9∧tn i s9.heap∧(∀b∈fp,H' b=none)∧W i m σ' H':=fun {s9 H9 m'} I9 hm w9=>by
    refine⟨m',hm,i+1,σ7,H9,I9.unpinned,T.keep _ _ _ st6 fun b hb o e=>(I9.pin (b,o) (mem_append_right _ (mem_append_right _ (uA hb e)))).1,fun b hb=>?_,w9⟩
    obtain⟨o,e,d⟩:=T.obj _ _ st6 b hb
    exact(I9.pin (b,o) (mem_append_right _ (mem_append_right _ (uA hb e)))).2.1
   cases ok with
   |false=>
    rw[if_neg (by simp)] at q8
    obtain⟨m',hm,w8⟩:=q8
    exact again I8 hm w8
   |true=>
    rw[if_pos rfl] at q8
    refine thn (he _ _ _ _ _ s8 σ7 H8 _ I8 q8) fun y s9 z_=>?_
    refine byc fun zG=>?_
    obtain⟨z,H9,I9,r9,ys,e9,l9,m',hm,w9⟩:=z_
    refine zG ?_
    refine thn (jx _ s9 σ7 H9 (.ref acc) [z] (.ref acc) [y] (fun _ H'=>H'=upd H9 acc (.lst (ys++[z]))) I9 rfl (.cons r9 .nil) ⟨acc,ys,z,rfl,rfl,e9,l9,rfl⟩) fun _ s10 z_=>?_
    refine byc fun zG=>?_
    obtain⟨_,H10,I10,_,e10⟩:=z_
    refine zG ?_
    subst e10
    exact again I10 hm w9
 exact codeAny_compStart_list (loop _ rfl) (T.self _ 0 _ _ _ st1 (loop _ rfl))
end
section
variable{X:Cx}{scope:Scope}{N':List Str}{tg iter elt:Expr}{ifs:List Expr}{pos:Pos}{wi:TI}{g:TG}{ti:TT}{te:TE}{s0:St→St}
theorem L5{pins:List (Addr×Obj)}{σ:St}{H:Hp}{s:Shared}{J:It}{fp:List Addr}{it:Addr}{tn:Nat→Heap→Prop}(T:Uv X.prog X.w X.K tg J fp it tn)(st:tn 0 s.heap):∀b∈fp,b<s.heap.objs.size:=fun b hb=>by
 obtain⟨o,e,_⟩:=T.obj 0 _ st b hb
 exact Heap.lt_size e
theorem TW(S:xX X scope)(hc:X.calm=true)(hl:∀σ:St,σ.length=X.N.length→(s0 σ).length=N'.length)
  (hσ:∀(σ:St) (i:Nat) (v:V),(s0 σ)[i]?=some (some v)→∃(x:Str) (j:Nat),N'[i]?=some x∧X.N[j]?=some x∧σ[j]?=some (some v)∧scope.names.lookup x=some .free)
  (hi:PI X tg iter wi) (hg:∀s H C fp,PG (X.comp scope N' s H C fp) tg g) (ht:∀s H C fp,PTs (X.comp scope N' s H C fp) ifs ti) (he:∀s H C fp,PE (X.comp scope N' s H C fp) elt te)
  (hs:∀x,foldedSetIterable iter X.env x=pure x:=by intro _;rfl):PE X (.ListComp elt [⟨tg,iter,ifs,0⟩] scope pos) (Q5 s0 wi g ti te):=by
 intro pins s σ H Q I h
 rw[eval_ListComp]
 have hclos:=v8 (scope:=scope) (env:=X.env) fun y hy hk=>Option.isSome_iff_exists.mpr (I.ok.has y.1 (S.free y hy hk))
 refine wpAny_comprehension_free (use:=none) rfl hs hclos S.kind S.locs (thn (hi pins s σ H _ I h) fun x s1 h1=>thn h1 fun itv s2 h2=>?_)
 refine byc fun zG=>?_
 obtain⟨it,fp,tn,J,H2,e,I2,T,st2,f2,hw⟩:=h2
 subst e
 have hf:H2 s2.heap.objs.size=none:=I2.hok.fresh (le_refl _)
 obtain⟨W,⟨m0,w0⟩,turn⟩:=hw _ hf
 refine zG ?_
 have hlt:=L5 (pins:=pins) (σ:=σ) (H:=H2) T st2
 refine wpAny_newObj_type ?_
 have I3:Inv X pins σ (upd H2 s2.heap.objs.size (.lst [])) { s2 with heap:=s2.heap.push { cls:=.type "list", dict:=none,data:=.seq ([]:List Value).toArray } }:=
  I2.laid (t':=s2.toks) (o:=.lst []) (fun b u e=>get?_push_of_some _ e) (le_refl _) ⟨zero_le _,[],0,.nil,Heap.get?_push_size _ rfl⟩
 have hsz:s2.heap.objs.size<(s2.heap.push { cls:=.type "list", dict:=none,data:=.seq ([]:List Value).toArray }).objs.size:=by rw[Heap.size_push];exact Nat.lt_succ_self _
 refine XJ (s0:=s0) (QQ:=Q) (W:=W) (m0:=m0) S hc (hl σ I2.len) (hσ σ) hg ht he I3 T (T.keep _ _ _ st2 fun b hb o e=>get?_push_of_some _ e) (fun b hb=>?_) (fun b hb=>Nat.lt_trans (hlt b hb) hsz) hsz w0 turn fun s' ⟨m,hn⟩ hq=>⟨m,hn,fun h' sb=>let ⟨v,H',I',r',q',_⟩:=hq h' sb;⟨v,H',I',r',q'⟩⟩
 refine byc fun zG=>?_
 obtain⟨f0,f1,f2,f3⟩:=f2 b hb
 refine zG ?_
 exact⟨by rw[zr (ne_of_lt (hlt b hb))];exact f0,f1,f2,f3⟩
theorem Jx{i:Nat}{y:Str}{py spos:Pos}(hN:X.N.Nodup)(hiN:X.N[i]?=some y)(hy:X.env.scope.names.lookup y=some .local)
  (hsw:swapsWith (.ListComp elt [⟨tg,iter,ifs,0⟩] scope pos) (some (.Name y py)) spos.line X.env=pure true)
  (S:xX X scope) (hc:X.calm=true) (hl:∀σ:St,σ.length=X.N.length→(s0 σ).length=N'.length)
  (hσ:∀(σ:St) (i:Nat) (v:V),(s0 σ)[i]?=some (some v)→∃(x:Str) (j:Nat),N'[i]?=some x∧X.N[j]?=some x∧σ[j]?=some (some v)∧scope.names.lookup x=some .free)
  (hi:PI X tg iter wi) (hg:∀s H C fp,PG (X.comp scope N' s H C fp) tg g) (ht:∀s H C fp,PTs (X.comp scope N' s H C fp) ifs ti) (he:∀s H C fp,PE (X.comp scope N' s H C fp) elt te)
  (hs:∀x,foldedSetIterable iter X.env x=pure x:=by intro _;rfl):PS X (.Assign [.Name y py] (.ListComp elt [⟨tg,iter,ifs,0⟩] scope pos) spos) (za7 (Q5 s0 wi g ti te) (WC i)):=by
 intro pins s σ H D I h
 rw[exec_Assign_Name_used _ _ _ _ hsw]
 refine wpAny_bind (wpAny_standAt (wpAny_bind ?_))
 show wpAny _ X.A (do let _ ← comprehension (.ListComp elt [⟨tg,iter,ifs,0⟩] scope pos) scope X.env _ (newList []) false (eval iter X.env) (some (assign (.Name y py) X.env))) _ _ s
 have hclos:=v8 (scope:=scope) (env:=X.env) fun y hy hk=>Option.isSome_iff_exists.mpr (I.ok.has y.1 (S.free y hy hk))
 refine wpAny_bind (wpAny_mono (wpAny_comprehension_free (use:=some (assign (.Name y py) X.env)) (Q:=fun _ s'=>SP X pins D .next s') rfl hs hclos S.kind S.locs
  (thn (hi pins s σ H _ I h) fun x s1 h1=>thn h1 fun itv s2 h2=>?_)) (fun _ s' hq=>wpAny_pure (wpAny_pure hq)) fun _ _ e=>e)
 refine byc fun zG=>?_
 obtain⟨it,fp,tn,J,H2,e,I2,T,st2,f2,hw⟩:=h2
 subst e
 have hf:H2 s2.heap.objs.size=none:=I2.hok.fresh (le_refl _)
 obtain⟨W,⟨m0,w0⟩,turn⟩:=hw _ hf
 refine zG ?_
 have hlt:=L5 (pins:=pins) (σ:=σ) (H:=H2) T st2
 refine wpAny_newObj_type ?_
 have I3:Inv X pins σ (upd H2 s2.heap.objs.size (.lst [])) { s2 with heap:=s2.heap.push { cls:=.type "list", dict:=none,data:=.seq ([]:List Value).toArray } }:=
  I2.laid (t':=s2.toks) (o:=.lst []) (fun b u e=>get?_push_of_some _ e) (le_refl _) ⟨zero_le _,[],0,.nil,Heap.get?_push_size _ rfl⟩
 have hsz:s2.heap.objs.size<(s2.heap.push { cls:=.type "list", dict:=none,data:=.seq ([]:List Value).toArray }).objs.size:=by rw[Heap.size_push];exact Nat.lt_succ_self _
 refine XJ (s0:=s0) (QQ:=fun x H1=>WC i x σ H1 D.nx) (W:=W) (m0:=m0) S hc (hl σ I2.len) (hσ σ) hg ht he I3 T (T.keep _ _ _ st2 fun b hb o e=>get?_push_of_some _ e) (fun b hb=>?_) (fun b hb=>Nat.lt_trans (hlt b hb) hsz) hsz w0 turn fun s' ⟨m,hn⟩ hq=>?_
 ·refine byc fun zG=>?_
  obtain⟨f0,f1,f2,f3⟩:=f2 b hb
  refine zG ?_
  exact⟨by rw[zr (ne_of_lt (hlt b hb))];exact f0,f1,f2,f3⟩
 ·refine byc fun zG=>?_
  obtain⟨v,H5,I5,r5,q5,hC⟩:=hq s'.heap (.refl ..)
  refine zG ?_
  have I5:Inv X pins σ H5 s':=I5
  show wpAny _ X.A (assign (.Name y py) X.env _) _ _ s'
  refine wpAny_assign_Name (Wk I5 hN hiN (.inl hy) r5 (fun s6 I6 z_=>?_) (.inr hy))
  obtain⟨a,sb,ha⟩:=z_
  have lt3:=I3.lt
  have ca:∀x c,X.env.cells.lookup x=some c→c<(s2.heap.push { cls:=.type "list", dict:=none,data:=.seq ([]:List Value).toArray }).objs.size:=fun x c e=>by
   obtain⟨v,z⟩:=I3.cell x c e
   exact z.lt
  have hne:(s2.heap.push { cls:=.type "list", dict:=none,data:=.seq ([]:List Value).toArray }).objs.size≠a:=by
   rcases ha with rfl|ha
   ·exact ne_of_gt lt3
   ·exact ne_of_gt (ca _ _ ha)
  refine⟨m,hn.sameBut sb hne,fun h' sb'=>⟨_,H5,?_,q5⟩⟩
  refine I6.turned (t':=s6.toks) (it:=(s2.heap.push { cls:=.type "list", dict:=none,data:=.seq ([]:List Value).toArray }).objs.size) (fun b o hb e=>(sb'.2 b hb).trans e) hC (ne_of_gt lt3) (.inr I3.sz) (fun x c e=>ne_of_lt (ca x c e)) fun p hp=>?_
  exact ne_of_lt (Heap.lt_size (I3.pin p hp).1)
end
noncomputable def uo(set:FG)(ft:FT)(fe:FE)(τ:DS):List D→Rs (List D)
 |[]=>.ok []
 |d::r=>match set d τ with
  |.ok τ1=>match ft τ1 with
   |.ok true=>match fe τ1 with
    |.ok x=>(uo set ft fe τ r).bind fun xs=>.ok (x::xs)
    |_=>.no
   |.ok false=>uo set ft fe τ r
   |_=>.no
  |_=>.no
noncomputable def j7:Option (Option Sl)→Option Sl
 | some (some (.val d))=>some (.val d)
 | some (some (.obr c fs))=>some (.obr c fs)
 | some (some (.obj _ c fs))=>some (.obr c fs)
 |_=>none
noncomputable def v6(k:Nat)(idx:List Nat)(τ:DS):DS:=List.replicate k none++idx.map fun j=>j7 τ[j]?
noncomputable def uq(k:Nat)(idx:List Nat)(σ:St):St:=List.replicate k none++idx.map fun j=>(σ[j]?).join
noncomputable def wZ(k:Nat)(idx:List Nat)(fi:FA)(set:FG)(ft:FT)(fe:FE):FA:=fun τ=>(fi τ).bind fun ds=>match uo set ft fe (v6 k idx τ) ds with
 |.ok xs=>if xs.length≤sizeLine then .ok xs else .no
 |_=>.no
noncomputable def jK(τ:DS):Prop:=(∀(i:Nat) es,τ[i]?≠some (some (.own es)))∧∀(i n:Nat) c fs,τ[i]?≠some (some (.obj n c fs))
structure WN(set:FG):Prop where
 ov:∀d e τ τ1,set e τ=.ok τ1→set d τ1=set d τ
 no:∀d τ τ1,set d τ=.ok τ1→jK τ→jK τ1
theorem ZZ{τ:DS}{i:Nat}{d:D}(h:jK τ):jK (τ.set i (some (.val d))):=⟨fun j es e=>by
 by_cases hij:i=j
 ·subst hij
  rw[getElem?_set] at e
  simp only[if_true] at e
  split at e <;> cases e
 ·rw[getElem?_set_ne hij] at e;exact h.1 j es e,fun j n c fs e=>h.2 j n c fs (yS (s:=some (.val d)) rfl rfl e).2⟩
theorem ue(i:Nat):WN (gNm i):=⟨fun d e τ τ1 h=>by
 unfold gNm at h ⊢;cases h;rw[set_set],fun d τ τ1 h n=>by unfold gNm at h;cases h;exact ZZ n⟩
theorem Ga(i j:Nat):WN (gPr i j):=⟨fun d e τ τ1 h=>by
 unfold gPr at h ⊢
 cases q:Y8 e with
 |none=>rw[q] at h;cases h
 |some xy=>
  obtain⟨x,y⟩:=xy
  rw[q] at h;cases h
  cases q2:Y8 d with
  |none=>rfl
  |some zw=>
   obtain⟨z,w⟩:=zw
   by_cases hij:i=j
   ·subst hij;simp[set_set]
   ·have e1:((τ.set i (some (.val x))).set j (some (.val y))).set i (some (.val z))=(τ.set i (some (.val z))).set j (some (.val y)):=by
     rw[List.set_comm _ _ (Ne.symm hij),set_set]
    simp only
    rw[e1,set_set]
    , fun d τ τ1 h n=>by
 unfold gPr at h
 cases q:Y8 d with
 |none=>rw[q] at h;cases h
 |some xy=>
  obtain⟨x,y⟩:=xy
  rw[q] at h;cases h
  exact ZZ (ZZ n)⟩
theorem uy(k:Nat)(idx:List Nat)(τ:DS):∀(i:Nat) es,(v6 k idx τ)[i]?≠some (some (.own es)):=fun i es e=>by
 unfold v6 at e
 by_cases hi:i<k
 ·rw[getElem?_append_left (by simpa using hi),getElem?_replicate] at e
  simp[hi] at e
 ·rw[getElem?_append_right (by simpa using hi),getElem?_map] at e
  cases q:idx[i-(List.replicate k (none:Option Sl)).length]? with
  |none=>rw[q] at e;cases e
  |some j=>
   rw[q] at e
   simp only[Option.map_some,Option.some.injEq] at e
   unfold j7 at e
   split at e <;> cases e
theorem jW(k:Nat)(idx:List Nat)(τ:DS):∀(i n:Nat) c fs,(v6 k idx τ)[i]?≠some (some (.obj n c fs)):=fun i n c fs e=>by
 unfold v6 at e
 by_cases hi:i<k
 ·rw[getElem?_append_left (by simpa using hi),getElem?_replicate] at e
  simp[hi] at e
 ·rw[getElem?_append_right (by simpa using hi),getElem?_map] at e
  cases q:idx[i-(List.replicate k (none:Option Sl)).length]? with
  |none=>rw[q] at e;cases e
  |some j=>
   rw[q] at e
   simp only[Option.map_some,Option.some.injEq] at e
   unfold j7 at e
   split at e <;> cases e
theorem uz(k:Nat)(idx:List Nat)(τ:DS):jK (v6 k idx τ):=⟨uy k idx τ,jW k idx τ⟩
theorem GZ{k:Nat}{idx:List Nat}{τ:DS}{i:Nat}{c:Str}{fs:List (Str×D)}(e:(v6 k idx τ)[i]?=some (some (.obr c fs))):∃j,k≤i∧idx[i-k]?=some j∧((∃n,τ[j]?=some (some (.obj n c fs)))∨τ[j]?=some (some (.obr c fs))):=by
 unfold v6 at e
 by_cases hi:i<k
 ·rw[getElem?_append_left (by simpa using hi),getElem?_replicate] at e
  simp[hi] at e
 ·rw[getElem?_append_right (by simpa using hi),getElem?_map] at e
  simp only[List.length_replicate] at e
  cases q:idx[i-k]? with
  |none=>rw[q] at e;cases e
  |some j=>
   rw[q] at e
   simp only[Option.map_some,Option.some.injEq] at e
   unfold j7 at e
   split at e <;> cases e
   ·exact⟨j,by lia,rfl,.inr (by assumption)⟩
   ·exact⟨j,by lia,rfl,.inl ⟨_,by assumption⟩⟩
theorem ObsOk.read{K:Frag}{F H:Hp}{τ:DS}{σ:St}(n:jK τ)(h:∀(i:Nat) (c:Str) (fs:List (Str×D)),τ[i]?=some (some (.obr c fs))→∃a C dx vs,σ[i]?=some (some (.ref a))∧H a=some (.ins C dx vs)∧nsIn K mainGlobals c=some (some (.ref C))∧Flds K F H c fs vs):ObsOk K F τ σ H:=
 ⟨fun i m c fs h=>absurd h (n.2 i m c fs),fun i j m c c' fs a _ h=>absurd h (n.2 i m c fs),h,fun i j m c c' fs a a' l _ h=>absurd h (n.2 i m c fs),fun i j c ds a l _ h=>absurd h (n.1 j ds)⟩
theorem RV.free_upd{K:Frag}{F H:Hp}{τ:DS}{σ:St}{p:Addr}{o:HO}(R:RV K F τ σ H)(n:jK τ)(hp:F p=none)(hl:H p=none∨∃vs,H p=some (.lst vs))(hq:∀(i:Nat) (c:Str) (a:Addr),ObS τ[i]? c→σ[i]?=some (some (.ref a))→p∉Lof H c a)(ho:∀a,o≠.own a:=by intro _ h;cases h):RV K F τ σ (upd H p o):=
 ⟨fun b u e=>by
  have:b≠p:=fun z=>by subst z;rw[hp] at e;cases e
  rw[zr this];exact R.fh b u e,R.len,R.val,fun i es e=>absurd e (n.1 i es),fun i j ds es a _ h=>absurd h (n.1 i ds),R.tt.step (fun _ _ e=>.inl e) (fun b o e n=>by
  have:b≠p:=fun z=>by
   subst z
   rcases hl with z|⟨vs,z⟩
   ·rw[z] at e;cases e
   ·rw[z] at e;cases e;exact n _ rfl
  rw[zr this];exact e) (ux ho),R.ob.updL hl hq⟩
theorem RS.apart{K:Frag}{B Z F H:Hp}{τ:DS}{σ:St}{p:Addr}(R:RS K B Z F τ σ H)(n:jK τ)(hp:B p=none):∀(i:Nat) (c:Str) (a:Addr),ObS τ[i]? c→σ[i]?=some (some (.ref a))→p∉Lof H c a:=fun i c a h e hm=>by
 rcases h with ⟨m,fs,h⟩|⟨fs,h⟩
 ·exact n.2 i m c fs h
 ·refine byc fun zG=>?_
  obtain⟨C,dx,vs,h1,h2⟩:=R.ro i c fs a h e
  rw[Lof.ins (R.bh _ _ h1)] at hm
  obtain⟨ws,h3⟩:=h2 p hm
  refine zG ?_
  rw[hp] at h3;cases h3
theorem RS.free_upd{K:Frag}{B Z F H:Hp}{τ:DS}{σ:St}{p:Addr}{vs:List V}(R:RS K B Z F τ σ H)(n:jK τ)(hb:B p=none)(hp:F p=none)(hl:H p=none∨∃vs,H p=some (.lst vs)):RS K B Z F τ σ (upd H p (.lst vs)):=
 ⟨R.rv.free_upd n hp hl (R.apart n hb),fun a o e=>by
  have:a≠p:=fun z=>by subst z;rw[hb] at e;cases e
  rw[zr this];exact R.bh a o e,R.zf,R.nb,fun i ds a h=>absurd h (n.1 i ds),fun i m c fs a h=>absurd h (n.2 i m c fs),fun a0 dx h1 h2 i m c fs h=>absurd h (n.2 i (m+1) c fs),R.ro⟩
theorem WU{K:Frag}{F H:Hp}{τ:DS}{σ:St}(k:Nat)(idx:List Nat)(R:RV K F τ σ H):RV K F (v6 k idx τ) (uq k idx σ) H:=by
 refine⟨R.fh,by simp[v6,uq],fun i d e=>?_,fun i es e=>absurd e (uy k idx τ i es),fun i j ds es a _ h=>absurd h (uy k idx τ i ds),R.tt,ObsOk.read (uz k idx τ) fun i c fs e=>?_⟩
 rotate_left
 ·refine byc fun zG=>?_
  obtain⟨j,hk,hj,h⟩:=GZ e
  refine zG ?_
  have es:∀v,σ[j]?=some (some v)→(uq k idx σ)[i]?=some (some v):=fun v h=>by
   unfold uq
   rw[getElem?_append_right (by simpa using hk),getElem?_map]
   simp[hj,h]
  rcases h with ⟨n,h⟩|h
  ·refine byc fun zG=>?_
   obtain⟨a,h1,C,dx,vs,h2,_,h4,h5,_⟩:=R.ob.at_ j n c fs h
   refine zG ?_
   exact⟨a,C,dx,vs,es _ h1,h2,h4,h5⟩
  ·refine byc fun zG=>?_
   obtain⟨a,C,dx,vs,h1,h2,h4,h5⟩:=R.ob.rd j c fs h
   refine zG ?_
   exact⟨a,C,dx,vs,es _ h1,h2,h4,h5⟩
 unfold v6 at e
 unfold uq
 by_cases hi:i<k
 ·rw[getElem?_append_left (by simpa using hi),getElem?_replicate] at e
  simp[hi] at e
 ·rw[getElem?_append_right (by simpa using hi),getElem?_map] at e
  rw[getElem?_append_right (by simpa using hi),getElem?_map]
  simp only[List.length_replicate] at e ⊢
  cases q:idx[i-k]? with
  |none=>rw[q] at e;cases e
  |some j=>
   rw[q] at e
   simp only[Option.map_some,Option.some.injEq] at e
   have:τ[j]?=some (some (.val d)):=by
    unfold j7 at e
    split at e <;> cases e
    assumption
   obtain⟨v,h1,h2⟩:=R.val j d this
   exact⟨v,by simp[h1],h2⟩
theorem Tu{K:Frag}{F H:Hp}{τ:DS}{σ:St}(k:Nat)(idx:List Nat)(R:RV K F τ σ H):RS K H F F (v6 k idx τ) (uq k idx σ) H:=
 ⟨WU k idx R,Hh.refl H,Same.refl F,fun a o e=>.inl e,fun i ds a h=>absurd h (uy k idx τ i ds),fun i m c fs a h=>absurd h (jW k idx τ i m c fs),fun a0 dx h1 h2 i m c fs h=>absurd h (jW k idx τ i (m+1) c fs),fun i c fs a h e=>by
  refine byc fun zG=>?_
  obtain⟨a',C,dx,vs,h1,h2,_,h5⟩:=(WU k idx R).ob.rd i c fs h
  refine zG ?_
  rw[e] at h1;cases h1
  exact⟨C,dx,vs,h2,fun l hl=>(h5.own hl).2⟩⟩
noncomputable def vk(H:Hp)(p:Addr):Hp:=fun b=>if b=p then none else H b
theorem jb(H:Hp)(p:Addr):vk H p p=none:=by unfold vk;rw[if_pos rfl]
theorem Z3{H:Hp}{p b:Addr}(h:b≠p):vk H p b=H b:=by unfold vk;rw[if_neg h]
theorem YN(H:Hp)(p:Addr)(o:HO):upd (vk H p) p o=upd H p o:=by
 funext b;unfold upd vk;split <;> rfl
theorem XF{F1 H1 F2 Hm F5 H5:Hp}{acc:Addr}{ls:List V}(a:Ext F1 H1 F2 Hm)(hm:Hm acc=none)(b:Ext F2 (upd Hm acc (.lst ls)) F5 H5):Ext F1 H1 F5 (vk H5 acc)∧F5 acc=none:=by
 have hf5:F5 acc=none:=by
  cases q:F5 acc with
  |none=>rfl
  |some o=>
   rcases b.nw acc o q with z|z
   ·rw[zX a.fh hm] at z;cases z
   ·rw[zB] at z;cases z
 have h1:H1 acc=none:=xJ a.hh hm
 have ha:H5 acc=some (.lst ls):=b.hh acc _ zB
 refine⟨⟨a.ff.trans b.ff,fun c o e=>?_,fun c o e=>?_,fun c o e=>?_,fun t=>?_⟩,hf5⟩
 ·have n:c≠acc:=fun z=>by subst z;rw[h1] at e;cases e
  rw[Z3 n]
  exact((a.hh.trans (.of (yr hm))).trans b.hh) c o e
 ·have n:c≠acc:=fun z=>by subst z;rw[hf5] at e;cases e
  rw[Z3 n];exact b.fh c o e
 ·rcases b.nw c o e with z|z
  ·exact a.nw c o z
  ·have n:c≠acc:=fun z'=>by subst z';rw[zB] at z;cases z
   rw[zr n] at z
   exact .inr (xJ a.hh z)
 ·have t2:=b.tt ((a.tt t).step (F':=F2) (H':=upd Hm acc (.lst ls)) (fun _ _ e=>.inl e) (fun c o e _=>by rw[zr (zR e hm)];exact e) (ux fun _ z=>nomatch z))
  exact t2.step (fun _ _ e=>.inl e) (fun c o e n=>by
   have:c≠acc:=fun z=>by subst z;rw[ha] at e;cases e;exact n _ rfl
   rw[Z3 this];exact e) fun d a e=>by
   unfold vk at e
   split at e
   ·cases e
   ·exact e
noncomputable def FreeOk(scope:Scope)(N:List Str):List Str→List Nat→Prop
 |[],[]=>True
 |x::xs,j::js=>N[j]?=some x∧scope.names.lookup x=some .free∧FreeOk scope N xs js
 |_,_=>False
theorem FreeOk.len{scope:Scope}{N:List Str}:∀{xs:List Str} {js:List Nat},FreeOk scope N xs js→xs.length=js.length
 |[],[],_=>rfl
 |_::xs,_::js,h=>by rw[length_cons,length_cons,FreeOk.len h.2.2]
theorem FreeOk.get{scope:Scope}{N:List Str}:∀{xs:List Str} {js:List Nat} {p j:Nat},FreeOk scope N xs js→js[p]?=some j→∃x,xs[p]?=some x∧N[j]?=some x∧scope.names.lookup x=some .free
 |[],[],_,_,_,e=>by simp at e
 |x::xs,i::js,0,j,h,e=>by simp at e;subst e;exact⟨x,rfl,h.1,h.2.1⟩
 |x::xs,i::js,p+1,j,h,e=>by
  obtain⟨y,h1,h2⟩:=FreeOk.get (p:=p) h.2.2 (by simpa using e)
  exact⟨y,by simpa using h1,h2⟩
noncomputable def jC(osc scope:Scope):Bool:=(match scope.kind with | .function=>true|_=>false)&&scope.names.all (fun y=>match y.2 with
 |.cell=>false
 |.local=>(match scope.names.lookup y.1 with|some .local=>true|_=>false)
 |.free=>(match osc.names.lookup y.1 with|some .cell=>true|some .free=>true|_=>false)
 |_=>true)
theorem vC{X:Cx}{scope:Scope}(h:jC X.env.scope scope=true):xX X scope:=by
 unfold jC at h
 rw[Bool.and_eq_true,List.all_eq_true] at h
 obtain⟨h1,h2⟩:=h
 refine⟨?_,fun y hy z=>?_,fun y hy z=>?_,fun y hy z=>?_⟩
 ·split at h1
  ·assumption
  ·cases h1
 ·have:=h2 y hy;rw[z] at this;cases this
 ·have:=h2 y hy;rw[z] at this
  simp only at this
  split at this
  ·assumption
  ·cases this
 ·have:=h2 y hy;rw[z] at this
  simp only at this
  split at this
  ·left;assumption
  ·right;assumption
  ·cases this
noncomputable def M8(Y:Cx)(ifs:List Expr)(f:FT):Prop:=PTs Y ifs (tTs Y f)
theorem Zj{Y:Cx}:M8 Y [] (fun _=>.ok true):=fun pins s σ H Q I z_=>by obtain⟨F,τ,R,h⟩:=z_;exact TF pins s σ H Q I (h F H (Ext.refl R.fh))
theorem Y3{Y:Cx}{c:Expr}{f:FT}(h:PDT Y c f):M8 Y [c] f:=TD h
section
variable{X:Cx}{scope:Scope}{tn fr:List Str}{idx:List Nat}{tg iter elt:Expr}{ifs:List Expr}{pos:Pos}{fi:FA}{set:FG}{ft:FT}{fe:FE}
structure CWH(K:Frag)(set:FG)(ft:FT)(fe:FE)(t0:DS)(ds xs:List D)(F1 H1:Hp)(acc:Addr)(i:Nat)(σ1:St)(Hc F2 Hm:Hp)(τ1:DS)(dn rs:List D)(vs:List V):Prop where
 a1:Ext F1 H1 F2 Hm
 a2:Hm acc=none
 a3:Hc=upd Hm acc (.lst vs)
 a4:Reps K F2 dn vs
 a5:RS K H1 F1 F2 τ1 σ1 Hc
 a6:jK τ1
 a7:∀d,set d τ1=set d t0
 a8:uo set ft fe t0 (ds.drop i)=.ok rs
 a9:xs=dn++rs
theorem Yt(hfr:FreeOk scope X.N fr idx)(σ:St)(i:Nat)(v:V)(h:(uq tn.length idx σ)[i]?=some (some v)):∃(x:Str) (j:Nat),(tn++fr)[i]?=some x∧X.N[j]?=some x∧σ[j]?=some (some v)∧scope.names.lookup x=some .free:=by
 unfold uq at h
 by_cases hi:i<tn.length
 ·rw[getElem?_append_left (by simpa using hi),getElem?_replicate] at h
  simp[hi] at h
 ·rw[getElem?_append_right (by simpa using hi),getElem?_map] at h
  simp only[List.length_replicate] at h
  cases q:idx[i-tn.length]? with
  |none=>rw[q] at h;cases h
  |some j=>
   rw[q] at h
   simp only[Option.map_some,Option.some.injEq] at h
   refine byc fun zG=>?_
   obtain⟨x,h1,h2,h3⟩:=hfr.get q
   refine zG ?_
   refine⟨x,j,by rw[getElem?_append_right (by lia)];exact h1,h2,?_,h3⟩
   cases z:σ[j]? with
   |none=>rw[z] at h;cases h
   |some o=>rw[z] at h;simp at h;rw[h]
end
section
variable{prog:Program}{w:World}{A:Around}{E:Value→Shared→Prop}{s:Shared}{z TI TO i1 i2:Addr}{n1 n2:Nat}{P1 P2:Nat→Value→Prop}{st1 st2:Nat→Heap→Prop}{rd1 rd2:Heap→Prop}
end
noncomputable def yh(c:Nat):D:=.str ⟨#[c]⟩
noncomputable def ZP(x:Str):List D:=x.cps.toList.map yh
noncomputable def Its(x:Str):It:=⟨fun i _=>i<x.cps.size,fun i H y H'=>H'=H∧∃c,x.cps[i]?=some c∧y=.str ⟨#[c]⟩,fun i _=>x.cps.size≤i⟩
theorem Q0{P:Program}{w:World}{K:Frag}{tg:Expr}{it:Addr}{x:Str}{t:Tok}{ty:String}(hty:ty = "str_ascii_iterator" ∨ ty = "str_iterator"):Uv P w K tg (Its x) [it] it (fun k h=>h.IsStrIter it ty x t k) where
 mem:=by simp
 obj:=fun i h ⟨o,e,c,d⟩ b hb=>by
  have z:b=it:=by simpa using hb
  subst z
  exact⟨o,e,fun v z=>by rw[d] at z;cases z⟩
 keep:=fun i h h' ⟨o,e,r⟩ k=>⟨o,k it (by simp) o e,r⟩
 item:=by
  intro X hP hw hK hc i pins s σ H E I hf st hg
  subst hP hw hK
  refine byc fun zG=>?_
  obtain⟨f0,f1,f2,f3,f4,f5⟩:=hf it (by simp)
  refine zG ?_
  have hh:X.A.handled=none:=I.ok.hd hc
  have W:Walks X.prog X.w X.A it [it] [it] x.cps.size (SignAt x) (fun i h=>h.IsStrIter it ty x t i):=by
   rcases hty with rfl|rfl
   ·exact Walks.strAscii hh it x t
   ·exact Walks.strWide hh it x t
  refine W.item i s _ _ hg st fun v h' tk hv st' kk=>?_
  refine byc fun zG=>?_
  obtain⟨c,u,ec,rfl⟩:=hv
  have I1:Inv X pins σ H { s with heap:=h',toks:=tk }:=I.turned (fun b o hb e=>kk b o (by simpa using hb) e) f0 f1 f3 f4 f5
  obtain⟨o,e,cc,d⟩:=id st'
  refine zG ?_
  exact⟨_,rfl,Uo (s:={ s with heap:=h',toks:=tk }) e cc d (by rcases hty with rfl|rfl <;> decide) ⟨.str ⟨#[c]⟩,H,I1,⟨u,rfl⟩,⟨rfl,c,ec,rfl⟩,st',fun b hb=>(hf b hb).1⟩⟩
 done:=by
  intro X hP hw hK hc i pins s σ H E I hf st hg
  subst hP hw hK
  refine byc fun zG=>?_
  obtain⟨f0,f1,f2,f3,f4,f5⟩:=hf it (by simp)
  refine zG ?_
  have hh:X.A.handled=none:=I.ok.hd hc
  have hx:x.cps[i]?=none:=by have:x.cps.size≤i:=hg;simp;lia
  rcases hty with rfl|rfl
  ·exact wpAny_pyNext_ascii_end hh st hx fun h' eb=>⟨rfl,I.turned (t':=s.toks) (fun b o hb e=>eb b o hb e) f0 f1 f3 f4 f5⟩
  ·exact wpAny_pyNext_wide_end hh st hx fun h' eb=>⟨rfl,I.turned (t':=s.toks) (fun b o hb e=>eb b o hb e) f0 f1 f3 f4 f5⟩
 self:=fun _ _ _ _ _ st h=>by
  rcases hty with rfl|rfl
  ·exact wpAny_pyIter_striter_ascii st h
  ·exact wpAny_pyIter_striter_wide st h
section
variable{X:Cx}{pos:Pos}{e tg:Expr}{es:List Expr}{fe:FE}{fs:FA}
theorem zf9{K:Frag}{F1:Hp}{x:Str}:QV K (Its x) F1 (ZP x):=fun i F H f1 f2=>by
 have hl:(ZP x).length=x.cps.size:=by simp[ZP]
 refine⟨fun h=>by rw[hl] at h;exact h,fun d hd=>?_⟩
 have hi:i<x.cps.size:=by have:=(List.getElem?_eq_some_iff.mp hd).1;rw[hl] at this;exact this
 refine⟨hi,fun y H' yy=>?_⟩
 refine byc fun zG=>?_
 obtain⟨e1,c,ec,rfl⟩:=yy
 refine zG ?_
 subst e1
 refine⟨F,Ext.refl f2,?_⟩
 have:d=yh c:=by
  simp only[ZP,getElem?_map] at hd
  have e2:x.cps.toList[i]?=some c:=by simpa using ec
  rw[e2] at hd
  exact(Option.some.inj hd).symm
 subst this
 simp only[yh,Rep]
noncomputable def Itd(hi:Int)(n:Nat):It:=⟨fun i _=>i<n,fun i H x H'=>H'=H∧x=.int (hi-i),fun i _=>n≤i⟩
theorem VG{P:Program}{w:World}{K:Frag}{tg:Expr}(it:Addr)(hi:Int)(n:Nat):Uv P w K tg (Itd hi n) [it] it (fun i h=>IsRangeIter h it (hi+(i:Nat)*(-1)) ((n:Int)-(i:Nat)) (-1)) where
 mem:=by simp
 obj:=fun i h st b hb=>by
  have e:b=it:=by simpa using hb
  subst e
  exact⟨_,st,fun v z=>by
   have z':Data.fields _=Data.cell v:=z
   cases z'⟩
 keep:=fun i h h' st k=>k it (by simp) _ st
 item:=by
  intro X hP hw hK hc i pins s σ H E I hf st hg
  subst hP hw hK
  refine byc fun zG=>?_
  obtain⟨f0,f1,f2,f3,f4,f5⟩:=hf it (by simp)
  refine zG ?_
  have W:=Walks.range (prog:=X.prog) (w:=X.w) (I.ok.hd hc) it hi (-1) n
  refine W.item i s _ _ hg st fun v h' tk hv st' kk=>?_
  obtain⟨t,rfl⟩:=hv
  have I1:Inv X pins σ H { s with heap:=h',toks:=tk }:=I.turned (fun b o hb e=>kk b o (by simpa using hb) e) f0 f1 f3 f4 f5
  refine⟨_,rfl,Uo (s:={ s with heap:=h',toks:=tk }) (n := "range_iterator") st' rfl rfl (by decide) ⟨.int (hi-i),H,I1,⟨t,?_⟩,⟨rfl,rfl⟩,st',fun b hb=>(hf b hb).1⟩⟩
  congr 1
  lia
 done:=by
  intro X hP hw hK hc i pins s σ H E I hf st hg
  subst hP hw hK
  refine byc fun zG=>?_
  obtain⟨f0,f1,f2,f3,f4,f5⟩:=hf it (by simp)
  refine zG ?_
  exact wpAny_pyNext_range_end (I.ok.hd hc) st (by have:n≤i:=hg;lia) fun h' eb=>⟨rfl,I.turned (t':=s.toks) (fun b o hb e=>eb b o hb e) f0 f1 f3 f4 f5⟩
 self:=fun _ _ _ _ _ st h=>wpAny_pyIter_rangeiter st h
end
section
variable{X:Cx}{pos:Pos}{e tg:Expr}{es:List Expr}{fe:FE}{fs:FA}
noncomputable def len1:D→Rs D
 |.lst ds=>.ok (.int ds.length)
 |.tup ds=>.ok (.int ds.length)
 |.scr ns=>.ok (.int ns.length)
 |.str x=>if x.length≤sizeLine then .ok (.int x.length) else .no
 |_=>.no
noncomputable def yQ:List D→Rs D
 |[d]=>len1 d
 |_=>.no
theorem xv:WO X (.builtin "len") yQ:=⟨_,call_len_seq.or Vw,fun F H vs ds Q fh r h=>by
 match ds,r,h with
 |[d],r,h=>
  obtain⟨v,rfl,q⟩:=r.one
  cases d with
  |lst ds=>
   simp only[Rep] at q;obtain⟨a,ws,rfl,e1,t⟩:=q
   refine .inl ⟨a,ws,rfl,.inl (SqL.of (fh _ _ e1)),?_⟩
   rw[← t.length];exact h _ F H (Ext.refl fh) (by simp only[Rep])
  |tup ds=>
   simp only[Rep] at q;obtain⟨a,ws,rfl,e1,t⟩:=q
   refine .inl ⟨a,ws,rfl,.inr (Same.seqT fh e1),?_⟩
   rw[← t.length];exact h _ F H (Ext.refl fh) (by simp only[Rep])
  |scr ns=>
   simp only[Rep] at q;obtain⟨a,rfl,e1⟩:=q
   refine .inl ⟨a,_,rfl,.inl (fh.seq e1),?_⟩
   rw[length_map];exact h _ F H (Ext.refl fh) (by simp only[Rep])
  |str x=>
   simp only[Rep] at q;subst q
   obtain⟨z,h⟩:=yY h
   exact .inr ⟨x,rfl,z,h _ F H (Ext.refl fh) (by simp only[Rep])⟩
  |_=>exact h.elim
 |[],_,h=>exact h.elim
 |_::_::_,_,h=>exact(show False from h).elim⟩
noncomputable def Zx(ds:List D):Rs D:=match Vo ds with
 | some (i,j)=>.ok (.int (if j<i then j else i))
 |none=>.no
noncomputable def Xl(ds:List D):Rs D:=match Vo ds with
 | some (i,j)=>.ok (.int (if j > i then j else i))
 |none=>.no
theorem Vv(hc:X.calm=true):WO X (.builtin "min") Zx:=⟨_,QR hc,fun F H vs ds Q fh r h=>by
 unfold Zx at h
 cases q:Vo ds with
 |none=>rw[q] at h;exact h.elim
 |some ij=>
  refine byc fun zG=>?_
  obtain⟨i,j⟩:=ij
  rw[q] at h
  have e:=Vn q
  subst e
  obtain⟨v,w,rfl,r1,r2⟩:=r.two
  refine zG ?_
  simp only[Rep] at r1 r2;subst r1;subst r2
  exact⟨i,j,rfl,h _ F H (Ext.refl fh) (by simp only[Rep])⟩⟩
theorem LD(hc:X.calm=true):WO X (.builtin "max") Xl:=⟨_,QT hc,fun F H vs ds Q fh r h=>by
 unfold Xl at h
 cases q:Vo ds with
 |none=>rw[q] at h;exact h.elim
 |some ij=>
  refine byc fun zG=>?_
  obtain⟨i,j⟩:=ij
  rw[q] at h
  have e:=Vn q
  subst e
  obtain⟨v,w,rfl,r1,r2⟩:=r.two
  refine zG ?_
  simp only[Rep] at r1 r2;subst r1;subst r2
  exact⟨i,j,rfl,h _ F H (Ext.refl fh) (by simp only[Rep])⟩⟩
theorem rangeSize_down(a b:Int):Builtin.Range.rangeSize a b (-1)=((a-b).toNat:Int):=by
 unfold Builtin.Range.rangeSize
 rw[if_neg (by decide)]
 by_cases h:a > b
 ·rw[if_pos h,show(- -1:Int)=1 from rfl,Int.ediv_one];lia
 ·rw[if_neg h];lia
theorem small_down{a b:Int}(ha : -(2 ^ 62)≤a)(ha':a<2 ^ 62)(hb : -(2 ^ 62)≤b)(hb':b<2 ^ 62):Builtin.Range.small a b (-1)=true:=by
 unfold Builtin.Range.small
 rw[rangeSize_down]
 simp only[Builtin.Range.rangeFitsLong,Bool.and_eq_true,Bool.or_eq_true,decide_eq_true_eq,beq_iff_eq,show ¬ (-1:Int) > 0 by decide,if_false]
 lia
noncomputable def iRngD(ta:TA):TI:=fun σ H R=>ta σ H fun vs H1=>∃i j:Int,vs=[.int i,.int j,.int (-1)]∧(-(2 ^ 62)≤i∧i<2 ^ 62∧-(2 ^ 62)≤j∧j<2 ^ 62)∧R (Itd i (i-j).toNat) H1
theorem Qi{a b c:Expr}{ta:TA}{p pos:Pos}(hg:Gl X "range")(hm:X.mg "range" = none)(ha:PA X [a,b,c] ta)(hs:starEach [a,b,c] X.env=[(false,eval a X.env),(false,eval b X.env),(false,eval c X.env)]:=by rfl)(hs2:starEach [b,c] X.env=[(false,eval b X.env),(false,eval c X.env)]:=by rfl) :
  PI X tg (.Call (.Name "range" p) [a,b,c] [] pos) (iRngD ta):=by
 intro pins s σ H R I h
 refine Call_ (u9 I hg hm boot_range (PyProof.Rows.callWith_type1 (thn (ha pos pins s σ H _ I h) fun us s1 z_=>?_) (by rw[hs,hs2]) (by rw[hs2];rfl)))
 refine byc fun zG=>?_
 obtain⟨vs,H1,I1,r1,q1⟩:=z_
 obtain⟨i,j,e,⟨q1,q2,q3,q4⟩,q⟩:=q1
 refine zG ?_
 subst e
 cases r1 with
 |cons r rr=>
  cases rr with
  |cons r' rr=>
   cases rr with
   |cons r'' rr=>
    cases rr
    refine byc fun zG=>?_
    obtain⟨t,rfl⟩:=r
    obtain⟨t',rfl⟩:=r'
    obtain⟨t'',rfl⟩:=r''
    refine zG ?_
    refine call_range_3 (by decide) ?_ (.inl (PyProof.noPylong_small (by decide)))
    have I2:Inv X pins σ H1 { s1 with heap:=s1.heap.push { cls:=.type "range", data:=.fields #[.int i t,.int j t',.int (-1) t''] },toks:=s1.toks }:=I1.kept fun b o e=>get?_push_of_some _ e
    refine wpAny_pyIter_range (IsRange.new ..) (small_down q1 q2 q3 q4) ?_
    refine⟨(s1.heap.push { cls:=.type "range", data:=.fields #[.int i t,.int j t',.int (-1) t''] }).objs.size,[(s1.heap.push { cls:=.type "range", data:=.fields #[.int i t,.int j t',.int (-1) t''] }).objs.size],_,_,H1,rfl,
     I2.kept (t':=s1.toks) fun b o e=>get?_push_of_some _ e,VG _ i (i-j).toNat,?_,fun b hb=>?_,q⟩
    ·have e1:i+((0:Nat):Int)*(-1)=i:=by simp
     have e2:(((i-j).toNat:Nat):Int)-((0:Nat):Int)=Builtin.Range.rangeSize i j (-1):=by rw[rangeSize_down];lia
     show IsRangeIter _ _ (i+((0:Nat):Int)*(-1)) ((((i-j).toNat:Nat):Int)-((0:Nat):Int)) (-1)
     rw[e1,e2]
     exact Heap.get?_push_size _ rfl
    ·have e:b=(s1.heap.push { cls:=.type "range", data:=.fields #[.int i t,.int j t',.int (-1) t''] }).objs.size:=by simpa using hb
     subst e
     exact I2.fpOk (le_refl _) (I2.hok.fresh (le_refl _))
noncomputable def Zg(hi:Int)(n:Nat):List D:=(List.range n).map fun (k:Nat)=>D.int (hi-k)
theorem Lo{K:Frag}{F1:Hp}{lo:Int}{n:Nat}:QV K (Itd lo n) F1 (Zg lo n):=fun i F H f1 f2=>by
 have hl:(Zg lo n).length=n:=by simp[Zg]
 refine⟨fun h=>by rw[hl] at h;exact h,fun d hd=>?_⟩
 have hi:i<n:=by have:=(List.getElem?_eq_some_iff.mp hd).1;rw[hl] at this;exact this
 refine⟨hi,fun x H' y=>?_⟩
 obtain⟨e1,y⟩:=y
 subst e1
 refine⟨F,Ext.refl f2,?_⟩
 simp[Zg,hi] at hd
 subst hd
 simp only[Rep];exact y
noncomputable def Uj:List D→Option (Int×Int)
 | [.int i,.int j,.int (-1)]=>some (i,j)
 |_=>none
theorem Mx{ds:List D}{i j:Int}(h:Uj ds=some (i,j)):ds=[.int i,.int j,.int (-1)]:=by
 unfold Uj at h;split at h <;> cases h;rfl
noncomputable def Vq(fs:FA):FA:=fun τ=>(fs τ).bind fun ds=>match Uj ds with
 | some (i,j)=>if (-(2 ^ 62)≤i∧i<2 ^ 62)∧-(2 ^ 62)≤j∧j<2 ^ 62 then .ok (Zg i (i-j).toNat) else .no
 |none=>.no
theorem Y7{a b c:Expr}{p:Pos}(hg:Gl X "range")(hm:X.mg "range" = none)(ha:PDA X [a,b,c] fs)(hs:starEach [a,b,c] X.env=[(false,eval a X.env),(false,eval b X.env),(false,eval c X.env)]:=by rfl)(hs2:starEach [b,c] X.env=[(false,eval b X.env),(false,eval c X.env)]:=by rfl) :
  PDI X tg (.Call (.Name "range" p) [a,b,c] [] pos) (Vq fs):=
 PI.imp (Qi hg hm ha hs hs2) fun σ H R z_=>by
  refine byc fun zG=>?_
  obtain⟨F,τ,Rv,h⟩:=z_
  refine zG ?_
  refine tAs.of Rv h.bind fun ds vs F1 H1 g x R1 r=>?_
  cases q1:Uj ds with
  |none=>rw[q1] at g;exact g.elim
  |some ij=>
   refine byc fun zG=>?_
   obtain⟨i,j⟩:=ij
   rw[q1] at g
   have e:=Mx q1
   subst e
   simp only[Reps] at r
   obtain⟨v,r1,e1,q,w,r2,e2,q',u,r3,e3,q'',e4⟩:=r
   refine zG ?_
   simp only[Rep] at q q' q'';subst q q' q'' e4 e3 e2 e1
   obtain⟨z,g⟩:=yY g
   exact⟨i,j,rfl,⟨z.1.1,z.1.2,z.2.1,z.2.2⟩,g _ F1 H1 x Lo⟩
noncomputable def MtD(X:Cx)(id:String)(g:D→List D→Rs D):Prop:=∃r,MtR X id r∧∀F H v vs d ds Q,Same F H→Rep X.K F d v→Reps X.K F ds vs→Ok X (g d ds) (Ev X.K F H Q)→r v vs H Q
noncomputable def Wb(T:String):D→Bool
 |.str _=>T = "str"
 |.int _=>T = "int"
 |.lst _=>T = "list"
 |.scr _=>T = "list"
 |_=>false
noncomputable def Ja(T:String)(g:D→List D→Rs D)(fo:FE):FE:=fun τ=>(fo τ).bind fun d=>if Wb T d=true then g d [] else .no
theorem za2{F H:Hp}{d:D}{v:V}{T:String}(fh:Same F H)(r:Rep X.K F d v)(h:Wb T d=true):tyV X.K T v H:=by
 cases d with
 |str x=>simp only[Rep] at r;subst r;show T = "str"; simpa[Wb] using h
 |int x=>simp only[Rep] at r;subst r;show T = "int"; simpa[Wb] using h
 |lst ds=>simp only[Rep] at r;obtain⟨a,vs,rfl,e,t⟩:=r;exact .inl ⟨by simpa[Wb] using h,vs,SqL.of (fh _ _ e)⟩
 |scr ds=>simp only[Rep] at r;obtain⟨a,rfl,e⟩:=r;exact .inl ⟨by simpa[Wb] using h,_,fh.seq e⟩
 |_=>simp[Wb] at h
theorem ok_if{X:Cx}{α:Type}{c:Prop}[Decidable c]{r:Rs α}{P:α→Prop}(h:Ok X (if c then r else .no) P):c∧Ok X r P:=by
 by_cases z:c
 ·rw[if_pos z] at h;exact⟨z,h⟩
 ·rw[if_neg z] at h;exact h.elim
theorem Jz{T id:String}{name:Str}{o:Expr}{apos cpos:Pos}{fo:FE}{g:D→List D→Rs D}(pa:PlainAttrs T)(slot:Slot T name id)(hty:typeOf (.builtin id)=pure (.type "method_descriptor"))(hm:MtD X id g)(ho:PDE X o fo)
  (hbase:attributeBase o name X.env (eval o X.env)=eval o X.env:=by rfl) (hline:(apos.endLine==cpos.line)=true:=by rfl):PDE X (.Call (.Attribute o name apos) [] [] cpos) (Ja T g fo):=by
 obtain⟨r,h1,h2⟩:=hm
 exact PE.imp (GD pa slot hty h1 ho hbase hline) fun σ H Q z_=>by
  refine byc fun zG=>?_
  obtain⟨Fz,τ,R,h⟩:=z_
  refine zG ?_
  refine tE.of R h.bind fun d v F1 H1 q x R1 rr=>?_
  obtain⟨z,q⟩:=ok_if q
  exact⟨za2 R1.fh rr z,h2 F1 H1 v [] d [] Q R1.fh rr Reps.nil (q.imp fun d e=>e.ext x)⟩
noncomputable def upD:D→List D→Rs D
 |.str x,[]=>if x.length≤5000000 then .ok (.str (Txt.upper x)) else .no
 |_,_=>.no
noncomputable def loD:D→List D→Rs D
 |.str x,[]=>if x.length≤5000000 then .ok (.str (Txt.lower x)) else .no
 |_,_=>.no
theorem mt_up:MtR X "str.upper" (fun v vs H Q=>∃x,v=.str x∧vs=[]∧x.length≤5000000∧Q (.str (Txt.upper x)) H):=by
 intro pins s σ H v vs u us Q I r rs h
 refine byc fun zG=>?_
 obtain⟨x,rfl,rfl,hx,q⟩:=h
 obtain⟨t,rfl⟩:=r
 refine zG ?_
 cases rs
 exact SC.upper (fit_upper (by lia)) ⟨.str (Txt.upper x),H,I.tok _,⟨_,rfl⟩,q⟩
theorem mt_lo:MtR X "str.lower" (fun v vs H Q=>∃x,v=.str x∧vs=[]∧x.length≤5000000∧Q (.str (Txt.lower x)) H):=by
 intro pins s σ H v vs u us Q I r rs h
 refine byc fun zG=>?_
 obtain⟨x,rfl,rfl,hx,q⟩:=h
 obtain⟨t,rfl⟩:=r
 refine zG ?_
 cases rs
 exact SC.lower (fit_lower (by lia)) ⟨.str (Txt.lower x),H,I.tok _,⟨_,rfl⟩,q⟩
theorem md_up:MtD X "str.upper" upD:=⟨_,mt_up,fun F H v vs d ds Q fh r rs h=>by
 cases d with
 |str x=>
  cases ds with
  |nil=>
   simp only[Rep] at r;subst r
   simp only[Reps] at rs;subst rs
   obtain⟨z,h⟩:=yY h
   exact⟨x,rfl,rfl,z,h _ F H (Ext.refl fh) (by simp only[Rep])⟩
  |cons a b=>exact h.elim
 |_=>cases ds <;> exact h.elim⟩
theorem md_lo:MtD X "str.lower" loD:=⟨_,mt_lo,fun F H v vs d ds Q fh r rs h=>by
 cases d with
 |str x=>
  cases ds with
  |nil=>
   simp only[Rep] at r;subst r
   simp only[Reps] at rs;subst rs
   obtain⟨z,h⟩:=yY h
   exact⟨x,rfl,rfl,z,h _ F H (Ext.refl fh) (by simp only[Rep])⟩
  |cons a b=>exact h.elim
 |_=>cases ds <;> exact h.elim⟩
theorem Qn{o:Expr}{apos cpos:Pos}{fo:FE}(ho:PDE X o fo)(hbase:attributeBase o "upper" X.env (eval o X.env)=eval o X.env:=by rfl)(hline:(apos.endLine==cpos.line)=true:=by rfl):PDE X (.Call (.Attribute o "upper" apos) [] [] cpos) (Ja "str" upD fo):=
 Jz F.plainAttrs_str F.slot_str_upper F.type_str_upper md_up ho hbase hline
theorem Qp{o:Expr}{apos cpos:Pos}{fo:FE}(ho:PDE X o fo)(hbase:attributeBase o "lower" X.env (eval o X.env)=eval o X.env:=by rfl)(hline:(apos.endLine==cpos.line)=true:=by rfl):PDE X (.Call (.Attribute o "lower" apos) [] [] cpos) (Ja "str" loD fo):=
 Jz F.plainAttrs_str F.slot_str_lower F.type_str_lower md_lo ho hbase hline
end
section
variable{X:Cx}{pos:Pos}{e tg:Expr}{es:List Expr}{fe:FE}{fs:FA}
end
section
variable{X:Cx}{pos:Pos}{e tg:Expr}{es:List Expr}{fe:FE}{fs:FA}
noncomputable def rSlS:V→Option Int→Option Int→Hp→VK→Prop:=fun x lo hi H Q=>∃z,x=.str z∧z.length≤sizeLine∧Q (.str (Txt.slice z lo hi)) H
theorem sl_str:SlR X rSlS:=by
 intro pins s σ H x v vl vu lo hi sl Q I rx hs pl pu h
 refine byc fun zG=>?_
 obtain⟨z,rfl,hz,q⟩:=h
 obtain⟨t,rfl⟩:=rx
 refine zG ?_
 refine⟨"str", _,F.slot_str_getitem.lookup,typeIs_str _ _ _,?_⟩
 refine byc fun zG=>?_
 obtain⟨o,e,c,d⟩:=hs
 refine zG ?_
 have fin:∀t' k,EP X pins σ Q (.str (Txt.slice z lo hi) t') { s with toks:=k }:=fun t' k=>⟨.str _,H,I.tok _,⟨_,rfl⟩,q⟩
 have hl:=le_trans (Txt.slice_le z lo hi) hz
 cases pl with
 |none=>
  cases pu with
  |none=>exact wpAny_getItem_str_slice (l:=none) (u:=none) (st:=none) ⟨o,e,c,d⟩ rfl (post_val_or_str ⟨hl,fin⟩)
  |int j uj=>exact wpAny_getItem_str_slice (l:=none) (u:=some (j,uj)) (st:=none) ⟨o,e,c,d⟩ rfl (post_val_or_str ⟨hl,fin⟩)
 |int i ui=>
  cases pu with
  |none=>exact wpAny_getItem_str_slice (l:=some (i,ui)) (u:=none) (st:=none) ⟨o,e,c,d⟩ rfl (post_val_or_str ⟨hl,fin⟩)
  |int j uj=>exact wpAny_getItem_str_slice (l:=some (i,ui)) (u:=some (j,uj)) (st:=none) ⟨o,e,c,d⟩ rfl (post_val_or_str ⟨hl,fin⟩)
noncomputable def cutD(xs:List D)(lo hi:Option Int):List D:=(xs.drop (HT.sIx xs.length 0 lo)).take (HT.sIx xs.length xs.length hi-HT.sIx xs.length 0 lo)
noncomputable def slD(d:D)(lo hi:Option Int):Rs D:=match d with
 |.str x=>if x.length≤sizeLine then .ok (.str (Txt.slice x lo hi)) else .no
 |.lst ds=>.ok (.lst (cutD ds lo hi))
 |_=>.no
noncomputable abbrev FO:=DS→Rs (Option Int)
noncomputable def JF:FO:=fun _=>.ok none
noncomputable def jJ(fe:FE):FO:=fun τ=>(fe τ).bind fun d=>match d with
 |.int i=>.ok (some i)
 |_=>.no
noncomputable def tOs(X:Cx)(f:FO):TO:=fun σ H Q=>∃F τ,RV X.K F τ σ H∧Ok X (f τ) fun o=>∀F' H',Ext F H F' H'→Q o H'
noncomputable def PDO(X:Cx)(e:Option Expr)(f:FO):Prop:=PO X e (tOs X f)
theorem PO.imp{e:Option Expr}{t t':TO}(h:PO X e t)(f:∀σ H Q,t' σ H Q→t σ H Q):PO X e t':=fun pins s σ H Q I q=>h pins s σ H Q I (f _ _ _ q)
theorem GM:PDO X none JF:=PO.imp TM fun σ H Q z_=>by obtain⟨F,τ,R,h⟩:=z_;exact h F H (Ext.refl R.fh)
theorem Y6(h:PDE X e fe):PDO X (some e) (jJ fe):=PO.imp (TL h) fun σ H Q z_=>by
 refine byc fun zG=>?_
 obtain⟨F,τ,R,h⟩:=z_
 refine zG ?_
 refine tE.of R h.bind fun d v F1 H1 g x R1 r=>?_
 cases d with
 |int i=>simp only[Rep] at r;exact⟨i,r,g F1 H1 x⟩
 |_=>exact g.elim
noncomputable def eSl(fe:FE)(fl fh:FO):FE:=fun τ=>(fe τ).bind fun d=>(fl τ).bind fun l=>(fh τ).bind fun u=>slD d l u
theorem GN{lo hi:Option Expr}{fl fh:FO}{p2:Pos}(he:PDE X e fe)(hl:PDO X lo fl)(hu:PDO X hi fh):PDE X (.Subscript e (.Slice lo hi none p2) pos) (eSl fe fl fh):=
 PE.imp (Gy (sl_str.or To) he hl hu) fun σ H Q z_=>by
  refine byc fun zG=>?_
  obtain⟨F,τ,R,h⟩:=z_
  refine zG ?_
  refine tE.of R h.bind fun d v F1 H1 g x R1 r=>?_
  refine⟨F1,τ,R1,g.bind.imp fun l gl F2 H2 x2=>⟨F2,τ,R1.ext x2,gl.bind.imp fun u gu F3 H3 x3=>?_⟩⟩
  have f3:=x3.fh
  have x13:=x.trans (x2.trans x3)
  cases d with
  |str z=>
   simp only[Rep] at r
   obtain⟨zz,gu⟩:=yY gu
   exact .inl ⟨z,r,zz,gu _ F3 H3 x13 (by simp only[Rep])⟩
  |lst ds=>
   simp only[Rep] at r;obtain⟨a,vs,rfl,e1,t⟩:=r
   have gu:Ev X.K F H Q (.lst (cutD ds l u)):=gu
   refine .inr ⟨a,vs,rfl,SqL.of (f3 _ _ (x3.ff _ _ (x2.ff _ _ e1))),fun p hp=>gu _ _ _ (x13.trans (Ext.new f3 hp)) ?_⟩
   simp only[Rep]
   refine⟨p,_,rfl,zB,?_⟩
   have t3:Reps X.K F3 (cutD ds l u) (QM vs l u):=by
    unfold cutD QM
    rw[← t.length]
    exact((t.mono (x2.ff.trans x3.ff)).drop _).take _
   exact t3.mono (yr (zX f3 hp))
  |_=>exact gu.elim
theorem YS{K:Frag}{F:Hp}:∀(cs:List Nat),Reps K F (cs.map yh) (cs.map fun c=>V.str ⟨#[c]⟩):=by
 intro l_
 induction l_ with
 |nil=>
  exact Reps.nil
 |cons c r ih_=>
  exact Reps.cons (by simp only[yh,Rep]) (ih_)
theorem Jd(hc:X.calm=true):CallR X (.type "list") (fun vs H Q=>∃x,vs=[.str x]∧x.cps.size≤sizeLine∧∀l,H l=none→Q (.ref l) (upd H l (.lst (x.cps.toList.map fun c=>V.str ⟨#[c]⟩)))):=by
 intro pins s σ H vs us Q I r h
 refine byc fun zG=>?_
 obtain⟨x,rfl,hz,q⟩:=h
 obtain⟨u,rfl,t,rfl⟩:=vals1 r
 refine zG ?_
 refine call_list_str (I.ok.hd hc) x t (fun h' tk acc' c' hk hS' hacc=>?_) hz
 obtain⟨hsz,hat⟩:=hacc
 have rel:Vals (x.cps.toList.map fun c=>V.str ⟨#[c]⟩) acc'.toList:=by
  have gen:∀(cs:List Nat) (us:List Value),us.length=cs.length→(∀(j:Nat) (v:Value),us[j]?=some v→∃c u,cs[j]?=some c∧v=.str ⟨#[c]⟩ u)→Vals (cs.map fun c=>V.str ⟨#[c]⟩) us:=by
   intro cs
   induction cs with
   |nil=>intro us hl _;cases us with
    |nil=>exact .nil
    |cons a b=>simp at hl
   |cons c r ih=>
    intro us hl ha
    cases us with
    |nil=>simp at hl
    |cons a b=>
     refine byc fun zG=>?_
     obtain⟨c',u,e1,e2⟩:=ha 0 a rfl
     refine zG ?_
     have e1:c=c':=by simpa using e1
     subst e1
     exact .cons ⟨u,e2⟩ (ih b (by simpa using hl) fun j v hj=>by simpa using ha (j+1) v (by simpa using hj))
  refine gen _ _ (by simp[hsz]) fun j v hj=>?_
  refine byc fun zG=>?_
  obtain⟨c,u,e1,e2⟩:=hat j v (by simpa using hj)
  refine zG ?_
  exact⟨c,u,by simpa using e1,e2⟩
 refine⟨.ref s.heap.objs.size,_,I.laid (t':=tk) hk (le_refl _) (o:=.lst (x.cps.toList.map fun c=>V.str ⟨#[c]⟩)) ⟨by simpa using hz,acc'.toList,c',rel,by simpa using hS'⟩,rfl,q _ (I.hok.fresh (le_refl _))⟩
noncomputable def Mj(ds:List D):Rs D:=match ds with
 |[d]=>match d with
  |.str x=>if x.cps.size≤sizeLine then .ok (.lst (ZP x)) else .no
  |.lst xs=>.ok (.lst xs)
  |.tup xs=>.ok (.lst xs)
  |.scr ns=>.ok (.lst (ns.map .int))
  |_=>.no
 |_=>.no
theorem LF(hc:X.calm=true):WO X (.type "list") Mj:=⟨_,(Jd hc).or ZF,fun F H vs ds Q fh r h=>by
 cases ds with
 |nil=>exact h.elim
 |cons d r2=>
  cases r2 with
  |cons a b=>exact h.elim
  |nil=>
   obtain⟨v,rfl,q⟩:=r.one
   cases d with
   |str x=>
    simp only[Rep] at q;subst q
    obtain⟨z,h⟩:=yY h
    refine .inl ⟨x,rfl,z,fun l hl=>h _ _ _ (Ext.new fh hl) ?_⟩
    simp only[Rep]
    exact⟨l,_,rfl,zB,YS _⟩
   |lst xs=>
    simp only[Rep] at q;obtain⟨a,ws,rfl,e,t⟩:=q
    have h:Ev X.K F H Q (.lst xs):=h
    refine .inr ⟨a,ws,rfl,.inl (SqL.of (fh _ _ e)),fun l hl=>h _ _ _ (Ext.new fh hl) ?_⟩
    simp only[Rep]
    exact⟨l,_,rfl,zB,t.mono (yr (zX fh hl))⟩
   |tup xs=>
    simp only[Rep] at q;obtain⟨a,ws,rfl,e,t⟩:=q
    have h:Ev X.K F H Q (.lst xs):=h
    refine .inr ⟨a,ws,rfl,.inr (Same.seqT fh e),fun l hl=>h _ _ _ (Ext.new fh hl) ?_⟩
    simp only[Rep]
    exact⟨l,_,rfl,zB,t.mono (yr (zX fh hl))⟩
   |scr ns=>
    simp only[Rep] at q;obtain⟨a,rfl,e⟩:=q
    have h:Ev X.K F H Q (.lst (ns.map .int)):=h
    refine .inr ⟨a,_,rfl,.inl (fh.seq e),fun l hl=>h _ _ _ (Ext.new fh hl) ?_⟩
    simp only[Rep]
    exact⟨l,_,rfl,zB,Reps.ints ns⟩
   |_=>exact h.elim⟩
theorem GQ{x:Str}{v:V}{u:Value}{d:D}(hg:Gl X x)(hm:X.mg x=some u)(r:RelV v u)(rd:∀F,Rep X.K F d v)(hd:(x==("__debug__" : Str))=false:=by decide):PDE X (.Name x pos) (eC d):=V0 (TV hg hm r hd) rd
theorem vh{x:Str}{y:Str}{t:Tok}(hg:Gl X x)(hm:X.mg x=some (.str y t))(hd:(x==("__debug__" : Str))=false:=by decide):PDE X (.Name x pos) (eC (.str y)):=GQ (v:=.str y) hg hm ⟨t,rfl⟩ (fun _=>by simp only[Rep]) hd
theorem vU{x:Str}{y:Int}{t:Tok}(hg:Gl X x)(hm:X.mg x=some (.int y t))(hd:(x==("__debug__" : Str))=false:=by decide):PDE X (.Name x pos) (eC (.int y)):=GQ (v:=.int y) hg hm ⟨t,rfl⟩ (fun _=>by simp only[Rep]) hd
end
section
variable{X:Cx}{pos:Pos}{e tg:Expr}{es:List Expr}{fe:FE}{fs:FA}
noncomputable def iAnyT(K:Frag)(tl:TE):TI:=fun σ H R=>tl σ H fun x H1=>(∃a,x=.ref a∧(∃xs,SqL K H1 a xs)∧R (Itl K a) H1)∨(∃a,x=.ref a∧(∃xs,SqT K H1 a xs)∧R (Itt K a) H1)∨∃z,x=.str z∧R (Its z) H1
theorem zb8{l:Expr}{tl:TE}(hl:PE X l tl):PI X tg l (iAnyT X.K tl):=by
 intro pins s σ H R I h
 refine thn (hl pins s σ H _ I h) fun v s1 z_=>?_
 refine byc fun zG=>?_
 obtain⟨x,H1,I1,r1,q1⟩:=z_
 refine zG ?_
 rcases q1 with ⟨a,e,⟨xs,hq⟩,q⟩|⟨a,e,⟨xs,hq⟩,q⟩|⟨z,e,q⟩
 ·subst e
  cases r1
  refine byc fun zG=>?_
  obtain⟨its,rv,p,hz⟩:=I1.list hq
  refine zG ?_
  refine wpAny_pyIter_list p.isList ?_
  refine⟨s1.heap.objs.size,[s1.heap.objs.size],_,_,H1,rfl,I1.kept (t':=s1.toks) fun b o e=>get?_push_of_some _ e,Wh a _,⟨_,Heap.get?_push_size _ rfl,rfl,rfl⟩,fun b hb=>?_,q⟩
  have e:b=s1.heap.objs.size:=by simpa using hb
  subst e
  exact I1.fpOk (le_refl _) (I1.hok.fresh (le_refl _))
 ·subst e
  cases r1
  refine byc fun zG=>?_
  obtain⟨its,rv,p,hz⟩:=I1.tuple hq
  refine zG ?_
  refine wpAny_pyIter_tuple (show s1.heap.IsTuple a its.toArray from p) ?_
  refine⟨s1.heap.objs.size,[s1.heap.objs.size],_,_,H1,rfl,I1.kept (t':=s1.toks) fun b o e=>get?_push_of_some _ e,Uw a _,⟨_,Heap.get?_push_size _ rfl,rfl,rfl⟩,fun b hb=>?_,q⟩
  have e:b=s1.heap.objs.size:=by simpa using hb
  subst e
  exact I1.fpOk (le_refl _) (I1.hok.fresh (le_refl _))
 ·subst e
  obtain⟨t,rfl⟩:=r1
  have fin:∀(ty:String),(ty = "str_ascii_iterator" ∨ ty = "str_iterator")→PIE X pins σ tg R (.ref s1.heap.objs.size) { s1 with heap:=s1.heap.push { cls:=.type ty,data:=.fields #[.str z t,.int 0 0] } }:=fun ty hty=>by
   refine⟨s1.heap.objs.size,[s1.heap.objs.size],_,_,H1,rfl,I1.kept (t':=s1.toks) fun b o e=>get?_push_of_some _ e,Q0 hty,⟨_,Heap.get?_push_size _ rfl,rfl,rfl⟩,fun b hb=>?_,q⟩
   have e:b=s1.heap.objs.size:=by simpa using hb
   subst e
   exact I1.fpOk (le_refl _) (I1.hok.fresh (le_refl _))
  cases ha:z.cps.all (· < 128)
  ·exact wpAny_pyIter_wide ha (fin _ (.inr rfl))
  ·exact wpAny_pyIter_ascii ha (fin _ (.inl rfl))
noncomputable def JR:D→Rs (List D)
 |.lst ds=>.ok ds
 |.scr ns=>.ok (ns.map .int)
 |.tup ds=>.ok ds
 |.str x=>.ok (ZP x)
 |_=>.no
noncomputable def ja(fe:FE):FA:=fun τ=>(fe τ).bind JR
theorem jr(he:PDE X e fe):PDI X tg e (ja fe):=
 PI.imp (zb8 he) fun σ H R z_=>by
  refine byc fun zG=>?_
  obtain⟨F,τ,Rv,h⟩:=z_
  refine zG ?_
  refine tE.of Rv h.bind fun d v F1 H1 g x R1 r=>?_
  cases d with
  |lst ds=>
   simp only[Rep] at r;obtain⟨a,vs,rfl,q,t⟩:=r
   exact .inl ⟨a,rfl,⟨vs,SqL.of (R1.fh _ _ q)⟩,g _ F1 H1 x (JS (SqL.of q) t)⟩
  |scr ns=>
   simp only[Rep] at r;obtain⟨a,rfl,q⟩:=r
   exact .inl ⟨a,rfl,⟨_,R1.fh.seq q⟩,g _ F1 H1 x (JS q (Reps.ints ns))⟩
  |tup ds=>
   simp only[Rep] at r;obtain⟨a,vs,rfl,q,t⟩:=r
   exact .inr (.inl ⟨a,rfl,⟨vs,Same.seqT R1.fh q⟩,g _ F1 H1 x (zf8 q t)⟩)
  |str z=>simp only[Rep] at r;exact .inr (.inr ⟨z,r,g _ F1 H1 x zf9⟩)
  |_=>exact g.elim
end
noncomputable def DefOk(P:Program)(w:World)(K:Frag)(mg:Str→Option Value)(base:Heap)(x:Str)(k n:Nat)(ps:List Str)(g:List D→Rs D):Prop:=
 ∃f fd,FnOk P w K mg base CX0 k f fd ps (spD K n g)∧Binds K fd ps []∧keepIn K (.ref f)=true∧mg x=some (.ref f)
structure zV(K:Frag)(mg:Str→Option Value)(x:Str)(st:Stmt)(f:Addr)(fd:FuncData):Prop where
 fn:Fun K x x st f fd
 at_:mg x=some (.ref f)
section
variable{P:Program}{w:World}{K:Frag}{mg:Str→Option Value}{base:Heap}
theorem DefOk.mk{x:Str}{st:Stmt}{f:Addr}{fd:FuncData}{N ps:List Str}{k n:Nat}{fb:FS}{g:List D→Rs D}(D:zV K mg x st f fd)(S:zD N ps (zi st))(hn:ps.length=n)
  (hb:∀(kV doc pm:Value) (an:Option Addr) (cdv ct:Value) (us:List Value),us.length=ps.length→bindArgs (fnOf x x (zE st) (zt st) (zi st) .none kV doc pm an cdv ct) ⟨us,[]⟩=pure (ps.zip us))
  (hbody:∀(cdv:Value) (A:Around) (outer:List Env) (s:Shared) (H:Hp) (E:XK),Room k (A.deeper (envOfC x (zi st) s.heap.objs.size f cdv)) →
   vD (uS CX0 P w K mg base N x (zi st) f cdv A outer s H E).nox (zt st) fb)
  (hg:∀ds d,ds.length=n→g ds=.ok d→wg N.length fb ds=.ok d):DefOk P w K mg base x (k+1) n ps g:=
 ⟨f,fd,FnD.to (fnD D.fn S hn hbody) hg,D.fn.binds hb,D.fn.kp,D.at_⟩
end
section
variable{X:Cx}{pos:Pos}{e tg:Expr}{es:List Expr}{fe:FE}{fs:FA}
theorem zI{k n:Nat}{ps:List Str}{g:List D→Rs D}{x:Str}{p:Pos}(D:DefOk X.prog X.w X.K X.mg X.base x k n ps g)(hr:Room k X.A)(ha:PDA X (e::es) fs)(hfs:∀τ ds,fs τ=.ok ds→ds.length=(e::es).length)(hn:(e::es).length=n:=by rfl)(hg:Gl X x:=by rfl)(hdb:(x==("__debug__" : Str))=false:=by decide)
  (he:starEach (e::es) X.env=(false,eval e X.env)::starEach es X.env:=by rfl) (hpl:(backTo pos (starEach es X.env)).any (·.1)=false:=by rfl):PDE X (.Call (.Name x p) (e::es) [] pos) (zv g fs):=by
 refine byc fun zG=>?_
 obtain⟨f,fd,F,hb,hk,hm⟩:=D
 refine zG ?_
 exact GR F hr hg hm hk hb ha hn hfs hdb he hpl
end
theorem jp{k:Nat}{A:Around}(r:Room k A):A.units+128<cLine:=by have:=r.un;lia
section
variable{X:Cx}{pos:Pos}{e a b:Expr}{fe fa fb:FE}
end
noncomputable def Jq(K:Frag):Sp:=fun vs H Q _=>∃(a:Addr) (ns:List Int) (F:Hp),vs=[.ref a]∧Same F H∧TbT F H∧SqL K F a (ns.map V.int)∧ns.length≤63∧∀H',Q (.bl true) H'
theorem ze9{P:Program}{w:World}{K:Frag}{mg:Str→Option Value}{base:Heap}{k:Nat}{g:List D→Rs D}{p:Str}{f:Addr}{fd:FuncData}(F:FnOk P w K mg base CX0 k f fd [p] (spD K 1 g))(h:∀ns:List Int,ns.length≤63→g [.scr ns]=.ok (.bl true)) :
  FnOk P w K mg base CX0 k f fd [p] (Jq K):=by
 refine F.imp fun vs H Q E z_=>?_
 refine byc fun zG=>?_
 obtain⟨a,ns,Fz,e,fh,tt,hS,h63,q⟩:=z_
 refine zG ?_
 subst e
 refine⟨rfl,[.scr ns],Fz,fh,tt,Reps.cons (by simp only[Rep];exact⟨a,rfl,hS⟩) Reps.nil,?_⟩
 rw[h ns h63]
 intro v F' H' _ r
 simp only[Rep] at r
 subst r
 exact q H'
section
variable{X:Cx}{pos:Pos}{e tg:Expr}{es:List Expr}{fe:FE}{fs:FA}
theorem Gk{K:Frag}{F:Hp}(lo:Int)(n:Nat):Reps K F (uR lo n) ((List.range n).map fun (k:Nat)=>V.int (lo+k)):=by
 unfold uR
 generalize List.range n=l
 induction l with
 |nil=>exact Reps.nil
 |cons a r ih=>exact Reps.cons (by simp only[Rep]) ih
theorem QW{lo:Int}{acc:Array Value}{n:Nat}(h:ItemsOf (fun i v=>∃t,v=Value.int (lo+i*1) t) acc n):Vals ((List.range n).map fun (k:Nat)=>V.int (lo+k)) acc.toList:=by
 obtain⟨hn,hi⟩:=h
 have key:∀(l:List Value) (j:Nat),(∀k v,l[k]?=some v→∃t,v=Value.int (lo+((j+k:Nat):Int)) t)→Vals ((List.range' j l.length).map fun (k:Nat)=>V.int (lo+k)) l:=fun l=>by
  induction l with
  |nil=>intro j _;exact .nil
  |cons a r ih=>
   intro j hj
   rw[length_cons,range'_succ,map_cons]
   refine .cons ?_ (ih (j+1) fun k v hv=>?_)
   ·obtain⟨t,rfl⟩:=hj 0 a rfl
    exact⟨t,by simp⟩
   ·obtain⟨t,e⟩:=hj (k+1) v (by simpa using hv)
    exact⟨t,by rw[e];congr 2;lia⟩
 have:=key acc.toList 0 fun k v hv=>by
  obtain⟨t,e⟩:=hi k v (by simpa using hv)
  exact⟨t,by rw[e];simp⟩
 rw[length_toList,hn,← List.range_eq_range'] at this
 exact this
noncomputable def V9(fi:FA):FA:=fun τ=>(fi τ).bind fun ds=>if ds.length≤16777216 then .ok ds else .no
theorem Mi{pins:List (Addr×Obj)}{σ:St}{F H F1 H1:Hp}{s1:Shared}{Q:VK}{lo hi:Int}{t u v:Tok}{tk:Nat}(hc:X.calm=true)(I1:Inv X pins σ H1 s1)(h1 : -(2 ^ 62)≤lo)(h2:lo<2 ^ 62)(h3 : -(2 ^ 62)≤hi)(h4:hi<2 ^ 62)(hz:(uR lo (hi-lo).toNat).length≤16777216)
  (x:Ext F H F1 H1) (q:∀p vs F' H',Ext F H F' H'→H' p=none→Reps X.K F' (uR lo (hi-lo).toNat) vs→Q (.ref p) (upd H' p (.lst vs))) :
  wpAny (model X.prog X.w) X.A (call (.type "list") [.ref s1.heap.objs.size]) (EP X pins σ Q) X.xe { s1 with heap:=s1.heap.push { cls:=.type "range", data:=.fields #[.int lo t,.int hi u,.int 1 v] },toks:=tk }:=by
 have I2:Inv X pins σ H1 { s1 with heap:=s1.heap.push { cls:=.type "range", data:=.fields #[.int lo t,.int hi u,.int 1 v] },toks:=tk }:=I1.kept fun b o e=>get?_push_of_some _ e
 have hl:(uR lo (hi-lo).toNat).length=(hi-lo).toNat:=by simp[uR]
 rw[hl] at hz
 refine call_list_range (n:=(hi-lo).toNat) (I2.ok.hd hc) (IsRange.new ..) (small_one h1 h2 h3 h4) (by rw[rangeSize_one];split <;> lia) (by lia) fun h' tk' acc' c' hk hS' hacc=>?_
 have rel:=QW hacc
 refine⟨.ref _,_,I2.laid (t':=tk') hk (le_refl _) (o:=.lst ((List.range (hi-lo).toNat).map fun (k:Nat)=>V.int (lo+k))) ⟨by rw[length_map,length_range,sizeLine_eq];exact hz,acc'.toList,c',rel,by simpa using hS'⟩,rfl,q _ _ _ _ x (I2.hok.fresh (le_refl _)) (Gk _ _)⟩
theorem Yn{a:Expr}{p p2 pos2:Pos}(hc:X.calm=true)(hl:Gl X "list")(hml:X.mg "list" = none)(hg:Gl X "range")(hm:X.mg "range" = none)(ha:PDA X [a] fs)(hs:starEach [a] X.env=[(false,eval a X.env)]:=by rfl)
  (he:starEach [.Call (.Name "range" p2) [a] [] pos2] X.env=(false,eval (.Call (.Name "range" p2) [a] [] pos2) X.env)::starEach [] X.env:=by rfl) (hpl:(backTo pos (starEach [] X.env)).any (·.1)=false:=by rfl) :
  PDF X (.Call (.Name "list" p) [.Call (.Name "range" p2) [a] [] pos2] [] pos) (V9 (ww fs)):=by
 rintro pins s σ H Q I ⟨F,τ,R,h⟩
 refine wpAny_Call_Name_kw (u9 I hl hml boot_list ?_)
 refine PyProof.Rows.callWith_type1 ?_ he hpl
 rw[he]
 show wpAny _ _ (spliced ((false,eval (.Call (.Name "range" p2) [a] [] pos2) X.env)::backTo pos (starEach [] X.env))) _ _ s
 refine Calls.spliced_cons ?_
 have h:=h.bind
 unfold ww at h
 have h:=h.bind
 generalize hG:(fun ds=>Ok X (match U0 ds with|some j=>if -(2 ^ 62)≤j∧j<2 ^ 62 then Rs.ok (uR 0 j.toNat) else Rs.no|none=>Rs.no) fun a=>Ok X (if a.length≤16777216 then Rs.ok a else Rs.no) fun ds=>∀(p:Addr) (vs:List V) (F' H':Hp),Ext F H F' H'→H' p=none→Reps X.K F' ds vs→Q (V.ref p) (upd H' p (HO.lst vs)))=G at h
 refine Call_ (u9 I hg hm boot_range (PyProof.Rows.callWith_type1 (thn (ha pos2 pins s σ H (fun vs H1=>∃ds F1,G ds∧Ext F H F1 H1∧RV X.K F1 τ σ H1∧Reps X.K F1 ds vs) I (tAs.of R h fun ds vs F1 H1 g x R1 r=>⟨ds,F1,g,x,R1,r⟩)) fun us s1 z_=>?_) hs rfl))
 refine byc fun zG=>?_
 obtain⟨vs,H1,I1,r1,ds,F1,g,x,R1,r⟩:=z_
 refine zG ?_
 subst hG
 cases q1:U0 ds with
 |none=>simp only[q1] at g;exact g.elim
 |some j=>
  simp only[q1] at g
  have e:=JU q1
  subst e
  obtain⟨v,rfl,q⟩:=r.one
  simp only[Rep] at q;subst q
  obtain⟨z,g⟩:=yY g
  obtain⟨zl,g⟩:=yY g
  cases r1 with
  |cons ra rr=>
   cases rr
   obtain⟨t,rfl⟩:=ra
   refine call_range_1 ?_
   refine Calls.spliced_nil ?_
   exact Mi hc I1 (by decide) (by decide) z.1 z.2 (by rw[Int.sub_zero];exact zl) x (by rw[Int.sub_zero];exact g)
end
section
open PySem.SeqAt
open PySem.AutoSeq1 (wpAny_loadPart')
open PySem.MeetsSeq PySem.MeetsSeq2 PySem.MeetsSeq3
end
section
variable{X:Cx}
end
section
variable{X:Cx}
end
section
variable{rest:List Expr}{env:Env}
end
section
variable{X:Cx}{pos:Pos}{e a b:Expr}{es:List Expr}{fe fa fb:FE}{fs:FA}
end
section
variable{X:Cx}{pins:List (Addr×Obj)}{σ:St}{H:Hp}{s:Shared}{h':Heap}
end
section
variable{X:Cx}{pins:List (Addr×Obj)}{σ:St}{H:Hp}{s:Shared}{h':Heap}{a:Addr}{cls:Value}
variable{M:Model}{A:Around}{E:Value→Shared→Prop}{Q:Unit→Shared→Prop}
end
section
variable{P:Program}{w:World}{K:Frag}{mg:Str→Option Value}{base:Heap}
end
section
variable{X:Cx}{pos:Pos}{e:Expr}{es:List Expr}{fe:FE}{fs:FA}{st:Stmt}
end
section
variable{P:Program}{w:World}{K:Frag}{mg:Str→Option Value}{base:Heap}
end
section
variable{X:Cx}{pins:List (Addr×Obj)}{σ:St}{H:Hp}{s:Shared}{a:Addr}{cls:Value}
end
section
variable{prog:Program}{w:World}{A:Around}{E:Value→Shared→Prop}{K:Frag}{x C:Addr}
end
section
variable{X:Cx}{pos:Pos}{a b:Expr}{fa:FE}
end
section
variable{X:Cx}{pos:Pos}{e:Expr}{es:List Expr}{fs:FA}{st:Stmt}
end
section
variable{X:Cx}{pos:Pos}{e a b:Expr}{es:List Expr}{fe fa fb:FE}{fs:FA}
end
section
variable{X:Cx}{pos:Pos}{e a b:Expr}{es:List Expr}{fe fa fb:FE}{fs:FA}
end
section
variable{P:Program}{w:World}{K:Frag}{mg:Str→Option Value}{base:Heap}
end
section
variable{X:Cx}{pos:Pos}{e:Expr}{es:List Expr}{fe:FE}{fs:FA}
end
section
variable{X:Cx}{scope:Scope}{N':List Str}
end
section
variable{X:Cx}{scope:Scope}{N':List Str}{tg iter elt:Expr}{ifs:List Expr}{pos:Pos}{wi:TI}{g:TG}{ti:TT}{te:TE}{s0:St→St}
end
section
variable{X:Cx}{scope:Scope}{tn fr:List Str}{idx:List Nat}{tg iter elt:Expr}{ifs:List Expr}{pos:Pos}{fi:FA}{set:FG}{ft:FT}{fe:FE}
end
section
variable{X:Cx}{tg:Expr}
end
section
variable{X:Cx}{pos:Pos}{e tg:Expr}{es:List Expr}{fe:FE}{fs:FA}
end
section
variable{P:Program}{w:World}{K:Frag}{mg:Str→Option Value}{base:Heap}
end
section
variable{X:Cx}{pos:Pos}{e:Expr}{es:List Expr}{fe:FE}{fs:FA}
end
section
variable{X:Cx}{pins:List (Addr×Obj)}{σ:St}{H:Hp}{s:Shared}{a:Addr}{cls:Value}
end
section
variable{X:Cx}{pos:Pos}{e a b:Expr}{es:List Expr}{fe fa fb:FE}{fs:FA}
end
section
variable{X:Cx}{tg:Expr}
end
section
variable{X:Cx}{pos:Pos}{e tg:Expr}{es:List Expr}{fe:FE}{fs:FA}
end
section
variable{X:Cx}{pos:Pos}{e a b:Expr}{es:List Expr}{fe fa fb:FE}{fs:FA}
end
noncomputable def BM(mg:Str→Option Value)(base:Heap):Prop:=∃bm o,mg "__builtins__" = some (.ref bm)∧bm≠builtinsNs∧base.get? bm=some o∧o.cls=.type "module" ∧ o.dict=some builtinsNs∧o.data=.plain
noncomputable def za0(ts:List Addr)(H:Hp):Prop:=∀b,H b=none∨(∃o xs,H b=some (.frz o (.lst xs)))∨(b∈ts∧H b=some (.tbl #[]))
theorem QD{P:Program}{w:World}{K:Frag}{mg mb:Str→Option Value}{CX:CXT}{k:Nat}{fa a:Addr}{fd:FuncData}{x:Str}{sp:Sp}{s₁:Shared}{vs:List Value}{ns:List Int}{ts:List Addr}
  (KX:K.In s₁.heap) (hns:s₁.heap.Ns mainGlobals mg) (hb:s₁.heap.Ns builtinsNs mb) (hbb:∀x:Str,x ≠ "__name__" → mb x=bootBuiltins x) (hlim:s₁.heap.NoLimit) (hg:s₁.gens = #[])
  (ha:s₁.heap.get? a=some { cls:=.type "list", data:=.seq vs.toArray }) (hi:IntsAre vs ns) (hl:ns.length≤sizeLine) (hr:Room k callerA)
  (tb:∀p∈ts,K.lookup p=none∧s₁.heap.get? p=some (PySem.W.tabObj #[])∧isCodeTable s₁.heap p)
  (hbm:BM mg s₁.heap) (F:∀base:Heap,K.In base→base.Ns mainGlobals mg→BM mg base→FnOk P w K mg base CX k fa fd [x] sp) (hbind:∀(s:Shared) (u:Value),BindsTo s fd ⟨[u],[]⟩ [(x,u)])
  (hsp:∀H F:Hp,za0 ts H→Same F H→(∀p∈ts,F p=none∧H p=some (.tbl #[]))→SqL K F a (ns.map V.int)→sp [.ref a] H (fun v H'=>v=.bl true) fun _ _ _=>False)
  (hCX:∀H e s',CX [] H s₁ (fun _ _ _=>False) e s'→False) :
  codeAny (model P w) callerA (.call (.ref fa) ⟨[.ref a],[]⟩) (fun r s'=>r=.ok (.ret (.bool true))∧OldK s₁.heap s'.heap∧s'.os=s₁.os∧AllBare s'.gens) s₁:=by
 have rv:=vals_ints hi
 have lenV:=hi.length
 have nat:a∉ts:=fun z=>by
  obtain⟨_,e,_⟩:=tb a z
  rw[ha] at e;cases e
 have core:∀H F:Hp,za0 ts H→Same F H→(∀p∈ts,F p=none∧H p=some (.tbl #[]))→SqL K F a (ns.map V.int)→HOk P w H s₁.heap→(∀b,H b≠none→b=a∨b∈ts)→(H a≠none→K.lookup a=none) →
   codeAny (model P w) callerA (.call (.ref fa) ⟨[.ref a],[]⟩) (fun r s'=>r=.ok (.ret (.bool true))∧OldK s₁.heap s'.heap∧s'.os=s₁.os∧AllBare s'.gens) s₁:=by
  intro H Fz hO fh hT hS hok hA hK
  have base_of:∀{b:Addr} {o:Obj},s₁.heap.get? b=some o→H b=none→(Wd s₁.heap H).get? b=some o:=fun e n=>Mz e n
  have noA:∀{b:Addr} {o:Obj} {es:Array DictEntry} {ep:Nat},s₁.heap.get? b=some o→o.data=.dict es ep→H b=none:=fun {b o es ep} e d=>by
   cases q:H b with
   |none=>rfl
   |some u=>
    rcases hA b (by rw[q];simp) with e' | e'
    ·subst e'
     rw[ha] at e;cases e
     have d':Data.seq vs.toArray _=Data.dict es ep:=d
     cases d'
    ·obtain⟨_,e2,_⟩:=tb b e'
     rw[e] at e2;cases e2
     cases d
  have nsK:∀{b:Addr} {m:Str→Option Value},s₁.heap.Ns b m→(Wd s₁.heap H).Ns b m:=fun {b m} ⟨o,es,ep,e,d,r⟩=>⟨o,es,ep,base_of e (noA e d),d,r⟩
  have hKb:K.In (Wd s₁.heap H):=fun b o e=>base_of (KX b o e) (by
   cases q:H b with
   |none=>rfl
   |some u=>
    rcases hA b (by rw[q];simp) with e' | e'
    ·subst e'
     rw[hK (by rw[q];simp)] at e;cases e
    ·rw[(tb b e').1] at e;cases e)
  have hM:Mod K mg (Wd s₁.heap H):=⟨hKb,nsK hns,⟨mb,nsK hb,hbb⟩,let ⟨mc,h1,h2⟩:=hlim;⟨mc,nsK h1,h2⟩⟩
  have e0:Env0 P w K mg (Wd s₁.heap H) callerA [] s₁ H:=⟨rfl,hM,fun b o e=>T8 e,Nat.le_of_eq (QI _ _),trivial,fun b hb=>absurd (show b∈([]:List Addr) from hb) (by simp),hok,.of_eq hg⟩
  have hbb:BM mg (Wd s₁.heap H):=by
   refine byc fun zG=>?_
   obtain⟨bm,o,b1,b2,b3,b4,b5,b6⟩:=hbm
   refine zG ?_
   refine⟨bm,o,b1,b2,base_of b3 ?_,b4,b5,b6⟩
   cases q:H bm with
   |none=>rfl
   |some u=>
    rcases hA bm (by rw[q];simp) with e' | e'
    ·subst e'
     rw[ha] at b3;cases b3;cases b6
    ·obtain⟨_,e2,_⟩:=tb bm e'
     rw[b3] at e2;cases e2;cases b6
  refine codeAny_mono ((F _ hKb (nsK hns) hbb).run callerA [] s₁ H ⟨[.ref a],[]⟩ [.ref a] [.ref a] _ _ hr e0 (hbind s₁ (.ref a)) (.cons rfl .nil) (hsp H Fz hO fh hT hS)) fun r s' h=>?_
  cases r with
  |error e=>exact(hCX H e s' h).elim
  |ok fl=>
   cases fl with
   |next=>exact False.elim h
   |brk=>exact False.elim h
   |cont=>exact False.elim h
   |ret u=>
    refine byc fun zG=>?_
    obtain⟨v,H',os,bare,un,hok',r',q'⟩:=h
    refine zG ?_
    subst q'
    obtain rfl:u=Value.bool true:=r'
    have was:∀b o,s₁.heap.get? b=some o→asItWas s₁.heap s'.heap b o:=fun b o e=>by
     cases q:H b with
     |none=>exact .inl (un.keep b o e q (by intro z;exact absurd (show b∈([]:List Addr) from z) (by simp)) (by simp))
     |some u=>
      rcases hO b with z|⟨ob,xs,z⟩|⟨hb,z⟩
      ·rw[q] at z;cases z
      ·have z2:=un.frzs b ob _ z
       obtain⟨e1,_⟩:=hok b _ z
       obtain⟨e2,_⟩:=hok' b _ z2
       rw[e] at e1;cases e1
       exact .inl e2
      ·refine byc fun zG=>?_
       obtain⟨more,z2⟩:=un.tbls b _ z
       have e2:s'.heap.get? b=some { cls:=.none,data:=.fields (#[]++more) }:=hok' b _ z2
       obtain⟨_,e3,e4⟩:=tb b hb
       refine zG ?_
       rw[e] at e3;cases e3
       exact .inr (.inl ⟨e4,rfl,#[],more,rfl,e2⟩)
    refine⟨rfl,⟨was,fun b o e=>?_⟩,os,bare⟩
    obtain⟨o',e'⟩:=un.there b o e (by simp)
    exact⟨o',e'⟩
 cases hk:K.lookup a with
 |some o=>
  have e:=KX a o hk
  rw[ha] at e
  cases e
  refine core (fun b=>if b∈ts then some (.tbl #[]) else none) (fun _=>none) (fun b=>?_) (fun _ _ z=>nomatch z) (fun p hp=>⟨rfl,if_pos hp⟩) (.inr ⟨_,vs.toArray,_,hk,rfl,rfl,rfl,by rw[size_toArray,lenV];exact hl,by simpa using rv⟩) (fun b u z=>?_) (fun b z=>?_) fun z=>absurd (if_neg nat) z
  ·by_cases h:b∈ts
   ·exact .inr (.inr ⟨h,if_pos h⟩)
   ·exact .inl (if_neg h)
  ·by_cases h:b∈ts
   ·have z':=(if_pos h).symm.trans z
    cases z'
    exact(tb b h).2.1
   ·have z':=(if_neg h).symm.trans z
    cases z'
  ·by_cases h:b∈ts
   ·exact .inr h
   ·exact absurd (if_neg h) z
 |none=>
  refine core (fun b=>if b∈ts then some (.tbl #[]) else if b=a then some (.frz { cls:=.type "list", data:=.seq vs.toArray } (.lst (ns.map V.int))) else none) (fun b=>if b=a then some (.frz { cls:=.type "list", data:=.seq vs.toArray } (.lst (ns.map V.int))) else none) (fun b=>?_) (fun b o z=>?_) (fun p hp=>⟨if_neg (fun z:p=a=>nat (z ▸ hp)),if_pos hp⟩) (.inl (.inr ⟨{ cls:=.type "list", data:=.seq vs.toArray },if_pos rfl⟩)) (fun b u z=>?_) (fun b z=>?_) fun _=>hk
  ·by_cases h:b∈ts
   ·exact .inr (.inr ⟨h,if_pos h⟩)
   ·by_cases hb:b=a
    ·exact .inr (.inl ⟨_,_,(if_neg h).trans (if_pos hb)⟩)
    ·exact .inl ((if_neg h).trans (if_neg hb))
  ·by_cases hb:b=a
   ·have z':=(if_pos hb).symm.trans z
    cases z'
    subst hb
    exact(if_neg nat).trans (if_pos rfl)
   ·have z':=(if_neg hb).symm.trans z
    cases z'
  ·by_cases h:b∈ts
   ·have z':=(if_pos h).symm.trans z
    cases z'
    exact(tb b h).2.1
   ·have z1:=(if_neg h).symm.trans z
    by_cases hb:b=a
    ·have z':=(if_pos hb).symm.trans z1
     cases z'
     subst hb
     exact⟨ha,by rw[length_map];exact hl,vs,_,rv,ha⟩
    ·have z':=(if_neg hb).symm.trans z1
     cases z'
  ·by_cases h:b∈ts
   ·exact .inr h
   ·by_cases hb:b=a
    ·exact .inl hb
    ·exact absurd ((if_neg h).trans (if_neg hb)) z
theorem Ub{K:Frag}{p:Addr}(h:p∉K.map (·.1)):K.lookup p=none:=by
 rw[show K.lookup p=List.lookup p K from rfl,List.lookup_eq_none_iff]
 intro q hq
 simp only[bne_iff_ne,ne_eq,beq_eq_false_iff_ne]
 intro z
 exact h (mem_map.mpr ⟨q,hq,z.symm⟩)
noncomputable def M7(K:Frag):Prop:=∀r∈Tabs.rows,∃c,PySem.W.codeHdIn K c r.1=true
theorem walkM{l:PySem.W.OpenLaw}{q:Program}{loose:List Str}{XP:(Str→Option Value)→Heap→Prop}{d:DefRec}{K:Params→Frag}{k:Nat}{p:Str}{as ts:List Addr}{has:∀P,as=(K P).map (·.1)}(hn:l.most=some 63)(hdf:d.params.defaults=[])(hk:Room k callerA)
  (hts:(Tabs.rows.all fun r=>ts.contains r.1 && !as.contains r.1)=true)
  (F:∀(w:World) (mg:Str→Option Value) (fa:Addr) (h:Heap),(K w.params).In h→h.Ns mainGlobals mg→mg d.name=some (.ref fa)→M7 (K w.params) ∧
   ∃fd:FuncData,(∀(s:Shared) (u:Value),BindsTo s fd ⟨[u],[]⟩ [(p,u)])∧∀base:Heap,(K w.params).In base→base.Ns mainGlobals mg→BM mg base→FnOk l.prog w (K w.params) mg base CX0 k fa fd [p] (Jq (K w.params))) :
  PySem.W.WalkO q loose XP (PySem.W.kmHook K as has ts).says l.row.toRowW d [] (fun f vs=>PySem.call f vs):=by
 refine Att.attach_call hn hdf fun w s₀ s₁ mg mb fa o pm cd doc a vs ns G Y ho hd hcd hmg hobj hints hlen hg=>?_
 have KX:=PySem.W.km_in_of Y
 have hT:=PySem.W.km_tabs_of Y
 refine byc fun zG=>?_
 obtain⟨tin,fd,hb,hF⟩:=F w mg fa _ KX G.T.g hmg
 refine zG ?_
 refine QD (ts:=Tabs.rows.map (·.1)) (CX:=CX0) (sp:=Jq (K w.params)) KX G.T.g G.T.b G.T.builtins G.T.nolimit hg hobj hints (le_trans hlen (by decide)) hk (fun p hp=>?_) ?_ hF hb (fun H Fz hO fh hT hS=>⟨a,ns,Fz,rfl,fh,⟨fun r hr=>?_,fun d b e=>(by rcases hO d with z|⟨_,_,z⟩|⟨_,z⟩ <;> (rw[z] at e;cases e))⟩,hS,hlen,fun _=>rfl⟩) fun H e s' z=>z
 ·refine byc fun zG=>?_
  obtain⟨r,hr,rfl⟩:=mem_map.mp hp
  have z:=List.all_eq_true.mp hts r hr
  rw[Bool.and_eq_true] at z
  have hp':=hT r.1 (by simpa using z.1)
  obtain⟨c,hc⟩:=tin r hr
  refine zG ?_
  refine⟨Ub (by rw[← has];simpa using z.2),hp',?_⟩
  exact((PySem.W.codeHd_of_K KX hc).tab hp').isCodeTable
 ·refine byc fun zG=>?_
  obtain⟨bm,ob,b1,b2,b3,b4,b5,b6⟩:=G.T.bmain
  refine zG ?_
  exact⟨bm,ob,b1,b2,b3,b4,b5,b6⟩
 ·obtain⟨h1,h2⟩:=hT r.1 (mem_map.mpr ⟨r,hr,rfl⟩)
  exact⟨h1,.inl h2⟩
open PySem.W
noncomputable def lxI:List Int→List Int→Bool
 |[],[]=>false
 |[],_::_=>true
 |_::_,[]=>false
 |a::x,b::y=>if a=b then lxI x y else decide (a<b)
theorem Xn:∀x:List Int,lxI x x=false:=by
 intro l_
 induction l_ with
 |nil=>
  exact rfl
 |cons a x ih_=>
  rw[lxI,if_pos rfl];exact ih_
theorem JL:∀x y:List Int,lxI x y=false→lxI y x=false→x=y
 |[],[],_,_=>rfl
 |[],_::_,h,_=>by simp[lxI] at h
 |_::_,[],_,h=>by simp[lxI] at h
 |a::x,b::y,h1,h2=>by
  rw[lxI] at h1 h2
  by_cases e:a=b
  ·subst e
   rw[if_pos rfl] at h1 h2
   rw[JL x y h1 h2]
  ·rw[if_neg e] at h1
   rw[if_neg (Ne.symm e)] at h2
   simp only[decide_eq_false_iff_not] at h1 h2
   lia
theorem vc:∀x y z:List Int,lxI x y=true→lxI y z=true→lxI x z=true
 |[],[],_,h,_=>by simp[lxI] at h
 |_::_,[],_,h,_=>by simp[lxI] at h
 |_,_::_,[],_,h=>by simp[lxI] at h
 |[],_::_,_::_,_,_=>rfl
 |a::x,b::y,c::z,h1,h2=>by
  rw[lxI] at h1 h2 ⊢
  by_cases e:a=b
  ·subst e
   rw[if_pos rfl] at h1
   by_cases e2:a=c
   ·subst e2;rw[if_pos rfl] at h2 ⊢;exact vc x y z h1 h2
   ·rw[if_neg e2] at h2 ⊢;exact h2
  ·rw[if_neg e] at h1
   simp only[decide_eq_true_eq] at h1
   by_cases e2:b=c
   ·subst e2;rw[if_neg e];simpa using h1
   ·rw[if_neg e2] at h2
    simp only[decide_eq_true_eq] at h2
    rw[if_neg (by lia)];simp only[decide_eq_true_eq];lia
theorem Qy{x y:List Int}(h:lxI x y=true):lxI y x=false:=by
 cases q:lxI y x with
 |false=>rfl
 |true=>have:=vc x y x h q;rw[Xn] at this;cases this
theorem YF{x y:List Int}(h:lxI x y=false)(n:x≠y):lxI y x=true:=by
 cases q:lxI y x with
 |true=>rfl
 |false=>exact absurd (JL x y h q) n
noncomputable def Pw{α:Type}(lt:Nat→Nat→Bool)(n:Nat):KasT α→(α→Prop)→Prop
 |.ret a,G=>G a
 |.ask i j k,G=>i<n∧j<n∧Pw lt n (k (lt i j)) G
section
variable{lt:Nat→Nat→Bool}{n:Nat}
theorem Gn{α:Type}{t u:KasT α}{G:α→Prop}(h:Pw lt n t G):Pw lt n (if true=true then t else u) G:=by rw[if_pos rfl];exact h
theorem zb2{α:Type}{t u:KasT α}{G:α→Prop}(h:Pw lt n u G):Pw lt n (if false=true then t else u) G:=by rw[if_neg (by simp)];exact h
theorem Pw.bind{α β:Type}{f:α→KasT β}{G:β→Prop}:∀(t:KasT α),Pw lt n t (fun a=>Pw lt n (f a) G)→Pw lt n (t.bind f) G
 |.ret _,h=>h
 |.ask i j k,h=>⟨h.1,h.2.1,Pw.bind (k (lt i j)) h.2.2⟩
theorem Pw.mono{α:Type}{G G':α→Prop}(hg:∀a,G a→G' a):∀(t:KasT α),Pw lt n t G→Pw lt n t G'
 |.ret a,h=>hg a h
 |.ask i j k,h=>⟨h.1,h.2.1,Pw.mono hg (k (lt i j)) h.2.2⟩
theorem Pw.wp{α:Type}{cmp:Nat→Nat→(Bool→Shared→Prop)→Shared→Prop}{s:Shared}(hc:∀(i j:Nat) (C:Bool→Shared→Prop),i<n→j<n→C (lt i j) s→cmp i j C s){G:α→Prop}{Q:α→Shared→Prop}(hq:∀a,G a→Q a s) :
  ∀(t:KasT α),Pw lt n t G→t.kasWp cmp Q s
 |.ret a,h=>hq a h
 |.ask i j k,h=>hc i j _ h.1 h.2.1 (Pw.wp hc hq (k (lt i j)) h.2.2)
end
section
variable{n:Nat}{κ:Nat→List Int}{p:Array Nat}
noncomputable abbrev ltK(κ:Nat→List Int)(i j:Nat):Bool:=lxI (κ i) (κ j)
noncomputable abbrev gK(κ:Nat→List Int)(p:Array Nat)(k:Nat):List Int:=κ (p.getD k 0)
noncomputable abbrev PmK(n:Nat)(p:Array Nat):Prop:=p.toList.Perm (List.range n)
theorem wE{p:Array Nat}(k:Nat):p.getD k 0=(p[k]?).getD 0:=by simp
theorem Yv(h:PmK n p):p.size=n:=by have:=h.length_eq;simpa using this
theorem uN(h:PmK n p)(hn:0<n)(k:Nat):p.getD k 0<n:=by
 rw[wE]
 cases q:p[k]? with
 |none=>exact hn
 |some v=>
  have hv:v∈p.toList:=by
   have q':p.toList[k]?=some v:=by rw[← q];simp
   exact List.mem_of_getElem? q'
  have:=h.mem_iff.mp hv
  simpa using this
theorem zb6(h:PmK n p){i j:Nat}(hi:i<n)(hj:j<n)(hij:i≠j):p.getD i 0≠p.getD j 0:=by
 have nd:p.toList.Nodup:=h.symm.nodup List.nodup_range
 have sz:=Yv h
 have key:∀a b:Nat,a<b→b<n→p.getD a 0≠p.getD b 0:=fun a b hab hb=>by
  have ha':a<p.toList.length:=by simp[sz];lia
  have hb':b<p.toList.length:=by simp[sz];lia
  have:=List.pairwise_iff_getElem.mp nd a b ha' hb' hab
  rw[wE,wE]
  have ea:p[a]?=some p.toList[a]:=by rw[getElem_toList];exact Array.getElem?_eq_getElem _
  have eb:p[b]?=some p.toList[b]:=by rw[getElem_toList];exact Array.getElem?_eq_getElem _
  rw[ea,eb]
  exact this
 rcases lt_or_ge i j with z|z
 ·exact key i j z hj
 ·exact(key j i (by lia) hi).symm
noncomputable def Srt(κ:Nat→List Int)(p:Array Nat)(a:Nat):Prop:=∀i j,i<j→j<a→lxI (gK κ p i) (gK κ p j)=true
noncomputable def Dsc(κ:Nat→List Int)(p:Array Nat)(a:Nat):Prop:=∀i j,i<j→j<a→lxI (gK κ p j) (gK κ p i)=true
variable(inj:∀i j,i<n→j<n→κ i=κ j→i=j)
include inj
theorem zg7(h:PmK n p){i j:Nat}(hi:i<n)(hj:j<n)(hij:i≠j):gK κ p i≠gK κ p j:=fun e=>
 zb6 h hi hj hij (inj _ _ (uN h (by lia) i) (uN h (by lia) j) e)
theorem Q6(h:PmK n p){a:Nat}(hs:Srt κ p a)(h1:1≤a)(ha:a<n)(e:lxI (gK κ p a) (gK κ p (a-1))=false):Srt κ p (a+1):=fun i j hij hj=>by
 rcases lt_or_ge j a with z|z
 ·exact hs i j hij z
 ·obtain rfl:j=a:=by lia
  have l:=YF e (zg7 inj h ha (by lia) (by lia))
  by_cases hi:i=j-1
  ·subst hi;exact l
  ·exact vc _ _ _ (hs i (j-1) (by lia) (by lia)) l
omit inj in
theorem Us{a:Nat}(hs:Dsc κ p a)(h1:1≤a)(e:lxI (gK κ p a) (gK κ p (a-1))=true):Dsc κ p (a+1):=fun i j hij hj=>by
 rcases lt_or_ge j a with z|z
 ·exact hs i j hij z
 ·obtain rfl:j=a:=by lia
  by_cases hi:i=j-1
  ·subst hi;exact e
  ·exact vc _ _ _ e (hs i (j-1) (by lia) (by lia))
theorem Jg(hp:PmK n p):∀(f a:Nat),1≤a→a+f≤n→Srt κ p a →
  Pw (ltK κ) n (kas_asc p f a) fun m=>a≤m∧m≤a+f∧Srt κ p m∧(m<a+f→lxI (gK κ p m) (gK κ p (m-1))=true):=by
 intro l_
 induction l_ with
 |zero=>
  rintro a h1 h2 hs
  exact⟨le_refl _,le_refl _,hs,fun z=>absurd z (lt_irrefl _)⟩
 |succ f ih_=>
  rintro a h1 h2 hs
  unfold kas_asc
  refine⟨uN hp (by lia) _,uN hp (by lia) _,?_⟩
  cases e:ltK κ (p.getD a 0) (p.getD (a-1) 0) with
  |true=>
   refine Gn ?_
   exact⟨le_refl _,by lia,hs,fun _=>e⟩
  |false=>
   refine zb2 ?_
   refine Pw.mono (fun m ⟨q1,q2,q3,q4⟩=>⟨by lia,by lia,q3,fun z=>q4 (by lia)⟩) _ (ih_ (a+1) (by lia) (by lia) (Q6 inj hp hs h1 (by lia) e))
theorem J0(hp:PmK n p):∀(f a:Nat),1≤a→a+f≤n→Dsc κ p a →
  Pw (ltK κ) n (kas_desc f p a 0) fun r=>r.1=p∧r.2.2=0∧a≤r.2.1∧r.2.1≤a+f∧Dsc κ p r.2.1:=by
 intro l_
 induction l_ with
 |zero=>
  rintro a h1 h2 hs
  exact⟨rfl,rfl,le_refl _,le_refl _,hs⟩
 |succ f ih_=>
  rintro a h1 h2 hs
  unfold kas_desc
  refine⟨uN hp (by lia) _,uN hp (by lia) _,?_⟩
  cases e:ltK κ (p.getD a 0) (p.getD (a-1) 0) with
  |true=>
   refine Gn ?_
   rw[if_neg (by lia)]
   refine Pw.mono (fun m ⟨q1,q2,q3,q4,q5⟩=>⟨q1,q2,by lia,by lia,q5⟩) _ (ih_ (a+1) (by lia) (by lia) (Us hs h1 e))
  |false=>
   refine zb2 ?_
   refine⟨uN hp (by lia) _,uN hp (by lia) _,?_⟩
   have e2:ltK κ (p.getD (a-1) 0) (p.getD a 0)=true:=YF e (zg7 inj hp (by lia) (by lia) (by lia))
   rw[e2]
   refine Gn ?_
   exact⟨rfl,rfl,le_refl _,Nat.le_add_right _ _,hs⟩
omit inj in
theorem L3(hp:PmK n p){m:Nat}(hm:m≤n)(k:Nat):gK κ (kas_rev p 0 m) k=if k<m then gK κ p (m-1-k) else gK κ p k:=by
 unfold gK
 rw[wE,show(kas_rev p 0 m)[k]?=_ from getElem?_mirror_all (by rw[Yv hp];exact hm) k]
 by_cases z:k<m
 ·rw[if_pos ⟨zero_le _,z⟩,if_pos z,← wE,zero_add]
 ·rw[if_neg (fun y=>z y.2),if_neg z,← wE]
omit inj in
theorem Gx(hp:PmK n p)(i j:Nat):PmK n (kas_rev p i j):=(Array.perm_iff_toList_perm.mp (mirror_perm p i j ((j-i) / 2))).trans hp
omit inj in
theorem Th(hp:PmK n p){m:Nat}(hm:m≤n)(hd:Dsc κ p m):Srt κ (kas_rev p 0 m) m:=fun i j hij hj=>by
 rw[L3 hp hm,L3 hp hm,if_pos (by lia),if_pos hj]
 exact hd _ _ (by lia) (by lia)
theorem Q4(hp:PmK n p){m:Nat}(h1:1≤m)(hm:m≤n)(hd:Dsc κ p m):Pw (ltK κ) n (kas_tail3 m n p) fun r=>PmK n r.2∧1≤r.1∧r.1≤n∧Srt κ r.2 r.1:=by
 unfold kas_tail3
 refine Pw.bind _ (Pw.mono (fun m' z_=>?_) _ (Jg inj (Gx hp 0 m) (n-m) m h1 (by lia) (Th hp hm hd)))
 refine byc fun zG=>?_
 obtain⟨q1,q2,q3,q4⟩:=z_
 refine zG ?_
 exact⟨Gx hp 0 m,by lia,by lia,q3⟩
theorem MV(hp:PmK n p)(hn:2≤n):Pw (ltK κ) n (kas_count n p) fun r=>PmK n r.2∧1≤r.1∧r.1≤n∧Srt κ r.2 r.1:=by
 unfold kas_count
 refine Pw.bind _ (Pw.mono (fun m z_=>?_) _ (Jg inj hp (n-1) 1 (le_refl _) (by lia) fun i j hij hj=>by lia))
 refine byc fun zG=>?_
 obtain⟨q1,q2,q3,q4⟩:=z_
 refine zG ?_
 by_cases e:m=n
 ·rw[if_pos (by simpa using e)]
  exact⟨hp,by lia,by lia,q3⟩
 ·rw[if_neg (by simpa using e)]
  have l:=q4 (by lia)
  by_cases z:m > 1
  ·rw[if_pos z]
   refine⟨uN hp (by lia) _,uN hp (by lia) _,?_⟩
   have:ltK κ (p.getD 0 0) (p.getD (m-1) 0)=true:=q3 0 (m-1) (by lia) (by lia)
   rw[this]
   refine Gn ?_
   exact⟨hp,by lia,by lia,q3⟩
  ·rw[if_neg z]
   obtain rfl:m=1:=by lia
   unfold kas_descPart
   have d1:Dsc κ p 1:=fun i j hij hj=>by lia
   refine Pw.bind _ (Pw.mono (fun r z_=>?_) _ (J0 inj hp (n-(1+1)) (1+1) (by lia) (by lia) (Us d1 (le_refl _) l)))
   refine byc fun zG=>?_
   obtain⟨r1,r2,r3,r4,r5⟩:=z_
   refine zG ?_
   rw[if_neg (by lia),r1]
   exact Q4 inj hp (by lia) (by lia) r5
theorem YZ(hp:PmK n p){k:Nat}(hk:k<n)(hs:Srt κ p k):∀(f l r:Nat),l≤r→r≤k→r-l≤f→(∀i,i<l→lxI (gK κ p i) (gK κ p k)=true)→(∀i,r≤i→i<k→lxI (gK κ p k) (gK κ p i)=true) →
  Pw (ltK κ) n (kas_place p k f l r) fun m=>m≤k∧(∀i,i<m→lxI (gK κ p i) (gK κ p k)=true)∧(∀i,m≤i→i<k→lxI (gK κ p k) (gK κ p i)=true):=by
 intro l_
 induction l_ with
 |zero=>
  rintro l r h1 h2 h3 h4 h5
  obtain rfl:l=r:=by lia
  exact⟨h2,h4,h5⟩
 |succ f ih_=>
  rintro l r h1 h2 h3 h4 h5
  unfold kas_place
  by_cases z:l ≥ r
  ·rw[if_pos z]
   obtain rfl:l=r:=by lia
   exact⟨h2,h4,h5⟩
  ·rw[if_neg z]
   refine⟨uN hp (by lia) _,uN hp (by lia) _,?_⟩
   cases e:ltK κ (p.getD k 0) (p.getD ((l+r) / 2) 0) with
   |true=>
    refine Gn ?_
    refine ih_ l ((l+r) / 2) (by lia) (by lia) (by lia) h4 fun i hi hik=>?_
    by_cases q:i=(l+r) / 2
    ·subst q;exact e
    ·exact vc _ _ _ e (hs _ i (by lia) hik)
   |false=>
    refine zb2 ?_
    refine ih_ ((l+r) / 2+1) r (by lia) (by lia) (by lia) (fun i hi=>?_) h5
    have e2:=YF e (zg7 inj hp hk (by lia) (by lia))
    by_cases q:i=(l+r) / 2
    ·subst q;exact e2
    ·exact vc _ _ _ (hs i _ (by lia) (by lia)) e2
omit inj in
theorem L4(hp:PmK n p){k l:Nat}(hk:k<n)(hl:l≤k)(i:Nat):gK κ (bubble p k (k-l)) i=if i=l then gK κ p k else if l<i∧i≤k then gK κ p (i-1) else gK κ p i:=by
 unfold gK
 rw[wE,getElem?_bubble (by rw[Yv hp];exact hk) (k-l) (by lia) i,show k-(k-l)=l by lia]
 split
 ·rw[← wE]
 ·split
  ·rw[← wE]
  ·rw[← wE]
theorem MY:∀(f:Nat) (p:Array Nat) (k:Nat),PmK n p→k+f=n→Srt κ p k→Pw (ltK κ) n (kas_bin f p k) fun q=>PmK n q∧Srt κ q n:=by
 intro l_
 induction l_ with
 |zero=>
  rintro p k hp e hs
  obtain rfl:k=n:=by lia
  exact⟨hp,hs⟩
 |succ f ih_=>
  rintro p k hp e hs
  unfold kas_bin
  refine Pw.bind _ (Pw.mono (fun l z_=>?_) _ (YZ inj hp (by lia) hs k 0 k (zero_le _) (le_refl _) (by lia) (fun i hi=>by lia) (fun i hi hik=>by lia)))
  obtain⟨q1,q2,q3⟩:=z_
  refine ih_ _ (k+1) ((Array.perm_iff_toList_perm.mp (bubble_perm p k (k-l))).trans hp) (by lia) fun i j hij hj=>?_
  rw[L4 hp (by lia) q1,L4 hp (by lia) q1]
  by_cases a1:i=l
  ·rw[if_pos a1,if_neg (by lia),if_pos (by lia)]
   exact q3 _ (by lia) (by lia)
  ·rw[if_neg a1]
   by_cases a2:l<i∧i≤k
   ·rw[if_pos a2,if_neg (by lia),if_pos (by lia)]
    exact hs _ _ (by lia) (by lia)
   ·rw[if_neg a2]
    by_cases b1:j=l
    ·rw[if_pos b1];exact q2 _ (by lia)
    ·rw[if_neg b1]
     by_cases b2:l<j∧j≤k
     ·rw[if_pos b2]
      by_cases c:i=j-1
      ·lia
      ·exact hs _ _ (by lia) (by lia)
     ·rw[if_neg b2];exact hs _ _ hij (by lia)
theorem Tk(hn:2≤n):Pw (ltK κ) n (kas_sort n) fun q=>PmK n q∧Srt κ q n:=by
 unfold kas_sort
 refine Pw.bind _ (Pw.mono (fun r z_=>?_) _ (MV inj (p:=List.toArray (List.range n)) (by show(List.toArray (List.range n)).toList.Perm _;simp) hn))
 refine byc fun zG=>?_
 obtain⟨q1,q2,q3,q4⟩:=z_
 refine zG ?_
 by_cases z:r.1<n
 ·rw[if_pos z,Nat.max_eq_left q2]
  exact MY inj _ _ _ q1 (by lia) q4
 ·rw[if_neg z]
  obtain e:r.1=n:=by lia
  rw[e] at q4
  exact⟨q1,q4⟩
end
noncomputable def Xw{α:Type}(x:List Int×α):List (List Int×α)→List (List Int×α)
 |[]=>[x]
 |y::r=>if lxI x.1 y.1=true then x::y::r else y::Xw x r
noncomputable def wO{α:Type}:List (List Int×α)→List (List Int×α)
 |[]=>[]
 |x::r=>Xw x (wO r)
theorem Z2{α:Type}(x:List Int×α):∀l,(Xw x l).Perm (x::l):=by
 intro l_
 induction l_ with
 |nil=>
  exact List.Perm.refl _
 |cons y r ih_=>
  unfold Xw
  split
  ·exact List.Perm.refl _
  ·exact((ih_).cons y).trans (List.Perm.swap x y r)
theorem up{α:Type}:∀l:List (List Int×α),(wO l).Perm l:=by
 intro l_
 induction l_ with
 |nil=>
  exact List.Perm.refl _
 |cons x r ih_=>
  exact(Z2 x _).trans ((ih_).cons x)
theorem Uk{α:Type}(x:List Int×α):∀l:List (List Int×α),l.Pairwise (fun a b=>lxI a.1 b.1=true)→(∀y∈l,y.1≠x.1)→(Xw x l).Pairwise fun a b=>lxI a.1 b.1=true:=by
 intro l_
 induction l_ with
 |nil=>
  rintro _ _
  unfold Xw;simp
 |cons y r ih_=>
  rintro h hd
  unfold Xw
  obtain⟨h1,h2⟩:=pairwise_cons.mp h
  split
  ·rename_i z
   refine pairwise_cons.mpr ⟨fun a ha=>?_,h⟩
   rcases mem_cons.mp ha with rfl|ha
   ·exact z
   ·exact vc _ _ _ z (h1 a ha)
  ·rename_i z
   have z':lxI y.1 x.1=true:=YF (by simpa using z) (hd y mem_cons_self).symm
   refine pairwise_cons.mpr ⟨fun a ha=>?_,ih_ h2 fun a ha=>hd a (mem_cons_of_mem _ ha)⟩
   rcases mem_cons.mp ((Z2 x r).mem_iff.mp ha) with rfl|ha
   ·exact z'
   ·exact h1 a ha
theorem Wl{α:Type}:∀l:List (List Int×α),(l.map (·.1)).Nodup→(wO l).Pairwise fun a b=>lxI a.1 b.1=true:=by
 intro l_
 induction l_ with
 |nil=>
  rintro _
  unfold wO;exact List.Pairwise.nil
 |cons x r ih_=>
  rintro h
  unfold wO
  rw[map_cons,nodup_cons] at h
  refine Uk x _ (ih_ h.2) fun y hy e=>h.1 ?_
  rw[← e]
  exact mem_map.mpr ⟨y,(up r).mem_iff.mp hy,rfl⟩
theorem Wq{α:Type}{r:α→α→Prop}(as:∀a b,r a b→r b a→False):∀{l m:List α},l.Perm m→l.Pairwise r→m.Pairwise r→l=m
 |[],m,p,_,_=>(List.Perm.nil_eq p)
 |a::l,[],p,_,_=>by have:=p.length_eq;simp at this
 |a::l,b::m,p,h1,h2=>by
  obtain⟨x1,x2⟩:=pairwise_cons.mp h1
  obtain⟨y1,y2⟩:=pairwise_cons.mp h2
  by_cases e:a=b
  ·subst e
   rw[Wq as ((List.perm_cons a).mp p) x2 y2]
  ·have ha:a∈b::m:=p.mem_iff.mp mem_cons_self
   have hb:b∈a::l:=p.mem_iff.mpr mem_cons_self
   rcases mem_cons.mp ha with z|z
   ·exact absurd z e
   ·rcases mem_cons.mp hb with w|w
    ·exact absurd w.symm e
    ·exact(as a b (x1 b w) (y1 a z)).elim
theorem UG{α:Type}{l m:List (List Int×α)}(p:l.Perm m)(h:l.Pairwise fun a b=>lxI a.1 b.1=true)(nd:(m.map (·.1)).Nodup):l=wO m:=
 Wq (fun a b x y=>by rw[Qy x] at y;cases y) (p.trans (up m).symm) h (Wl m nd)
theorem Q7{α:Type}{ks:List (List Int)}{ds:List α}{q:Array Nat}{d:α}(hl:ks.length=ds.length)(nd:ks.Nodup)(hp:q.toList.Perm (List.range ds.length))(hs:Srt (fun i=>ks.getD i []) q ds.length) :
  q.toList.map (fun i=>ds.getD i d)=(wO (ks.zip ds)).map (·.2):=by
 have hz:(ks.zip ds).map (·.1)=ks:=List.map_fst_zip (by lia)
 have e0:(List.range ds.length).map (fun i=>(ks.getD i [],ds.getD i d))=ks.zip ds:=by
  apply List.ext_getElem
  ·simp[hl]
  ·intro i h1 h2
   have a1:i<ds.length:=by simpa using h1
   have a2:i<ks.length:=by lia
   simp[a1,a2]
 have key:q.toList.map (fun i=>(ks.getD i [],ds.getD i d))=wO (ks.zip ds):=by
  refine UG (by rw[← e0];exact hp.map _) ?_ (by rw[hz];exact nd)
  rw[List.pairwise_map,List.pairwise_iff_getElem]
  intro i j hi hj hij
  have sz:q.size=ds.length:=Yv hp
  have:=hs i j hij (by simpa[sz] using hj)
  unfold gK at this
  rw[wE,wE] at this
  have ea:q[i]?=some q.toList[i]:=by rw[getElem_toList];exact Array.getElem?_eq_getElem _
  have eb:q[j]?=some q.toList[j]:=by rw[getElem_toList];exact Array.getElem?_eq_getElem _
  rw[ea,eb] at this
  exact this
 rw[← key,map_map]
 rfl
open PySem.W
noncomputable def KTs(h:Heap):List Value→List (List Int)→Prop
 |[],[]=>True
 |v::vs,k::ks=>(∃a o its n,v=Value.ref a∧h.get? a=some o∧o.cls=.type "tuple" ∧ o.data=.seq its n∧IntsAre its.toList k∧k≠[])∧KTs h vs ks
 |_,_=>False
theorem KTs.len{h:Heap}:∀{vs:List Value} {ks:List (List Int)},KTs h vs ks→vs.length=ks.length
 |[],[],_=>rfl
 |_::vs,_::ks,r=>by rw[length_cons,length_cons,KTs.len r.2]
 |[],_::_,r=>r.elim
 |_::_,[],r=>r.elim
theorem KTs.get{h:Heap}:∀{vs:List Value} {ks:List (List Int)} {i:Nat},KTs h vs ks→i<ks.length→∃a o its n,vs.getD i Value.none=Value.ref a∧h.get? a=some o∧o.cls=.type "tuple" ∧ o.data=.seq its n∧IntsAre its.toList (ks.getD i [])∧ks.getD i []≠[]
 |[],[],_,_,hi=>by simp at hi
 |_::vs,_::ks,0,r,_=>by simpa using r.1
 |_::vs,_::ks,i+1,r,hi=>by
  refine byc fun zG=>?_
  obtain⟨a,o,its,n,q⟩:=KTs.get (i:=i) r.2 (by simpa using hi)
  refine zG ?_
  exact⟨a,o,its,n,by simpa using q⟩
 |[],_::_,_,r,_=>r.elim
 |_::_,[],_,r,_=>r.elim
theorem KTs.firsts{h:Heap}:∀{vs:List Value} {ks:List (List Int)},KTs h vs ks→∃fs:List Value,KatTups h vs fs∧fs.length=vs.length∧∀v∈fs,∃n t,v=Value.int n t
 |[],[],_=>⟨[],KatTups.nil,rfl,fun _ z=>nomatch z⟩
 |v::vs,k::ks,⟨⟨a,o,its,n,e1,e2,e3,e4,e5,e6⟩,r⟩=>by
  refine byc fun zG=>?_
  obtain⟨fs,q1,q2,q3⟩:=KTs.firsts r
  subst e1
  have:∃i t,its[0]?=some (Value.int i t):=by
   obtain⟨l⟩:=its
   cases e5 with
   |nil=>exact absurd rfl e6
   |cons i t _=>exact⟨i,t,rfl⟩
  obtain⟨i,t,h0⟩:=this
  refine zG ?_
  refine⟨_,KatTups.cons e2 e3 e4 h0 q1,by simp[q2],fun v hv=>?_⟩
  rcases mem_cons.mp hv with rfl|hv
  ·exact⟨_,_,rfl⟩
  ·exact q3 v hv
 |[],_::_,r=>r.elim
 |_::_,[],r=>r.elim
section
variable{prog:Program}{w:World}{A:Around}{E:Value→Shared→Prop}{s:Shared}
theorem QF{vs:List Value}{ks:List (List Int)}{Q:SortKind→Shared→Prop}(h:KTs s.heap vs ks)(hn:0<vs.length)(q:Q (tuples' true) s):wpAny (model prog w) A (keyKind' vs.toArray) Q E s:=by
 refine byc fun zG=>?_
 obtain⟨fs,q1,q2,q3⟩:=h.firsts
 refine zG ?_
 refine kat_kind (T:=.type "int") q1 (by lia) (fun v hv=>?_) (by decide) q
 obtain⟨i,t,rfl⟩:=q3 v hv
 exact Looks.now
theorem Uc{Q:Bool→Shared→Prop}{fin:Bool}:∀{xs ys:List Int} {us ws:List Value} (i:Nat),IntsAre us xs→IntsAre ws ys→fin=decide (xs.length<ys.length)→Q (lxI xs ys) s→KatLex prog w A true fin Q (us.zip ws) i s
 |_,_,_,_,i,.nil,.nil,e,q=>by
  have e:fin=false:=by simpa using e
  subst e
  exact kat_nil q
 |_,_,_,_,i,.nil,.cons _ _ _,e,q=>by
  have e:fin=true:=by simpa using e
  subst e
  exact kat_nil q
 |_,_,_,_,i,.cons _ _ _,.nil,e,q=>by
  have e:fin=false:=by simpa using e
  subst e
  exact kat_nil q
 |_,_,_,_,i,.cons a t r1,.cons b u r2,e,q=>by
  rw[lxI] at q
  refine kat_cons (wpAny_eqBool_int ?_)
  by_cases z:a=b
  ·subst z
   rw[if_pos rfl] at q
   rw[beq_self_eq_true]
   exact kat_yes (Uc (i+1) r1 r2 (by rw[e];simp) q)
  ·rw[if_neg z] at q
   rw[show(a==b)=false by simpa using z]
   refine kat_no ?_
   cases hi:(true&&i==0) with
   |true=>exact oneLt_int q
   |false=>exact kat_one _ _ (PyProof.Rows.lt_int (show PySem.W.BoolBack Q (.bool (decide (a<b))) s from q))
theorem M3{vs:List Value}{ks:List (List Int)}{n:Nat}(h:KTs s.heap vs ks)(hn:ks.length=n)(i j:Nat)(C:Bool→Shared→Prop)(hi:i<n)(hj:j<n)(q:C (ltK (fun i=>ks.getD i []) i j) s):kas_ask prog w A (tuples' true) vs i j C s:=by
 refine byc fun zG=>?_
 obtain⟨a,o,its,m,e1,e2,e3,e4,e5,e6⟩:=h.get (i:=i) (by lia)
 obtain⟨a',o',its',m',f1,f2,f3,f4,f5,f6⟩:=h.get (i:=j) (by lia)
 refine zG ?_
 unfold kas_ask
 rw[e1,f1]
 refine kat_lt e2 e4 f2 f4 (Uc 0 e5 f5 ?_ q)
 have l1:=e5.length
 have l2:=f5.length
 rw[length_toList] at l1 l2
 rw[l1,l2]
theorem Gd{vs us:List Value}{ks:List (List Int)}{Q:SortSt→Shared→Prop}(h:KTs s.heap vs ks)(hl:vs.length=us.length)(h2:2≤us.length)(h64:us.length<64)(nd:ks.Nodup)
  (q:∀(p:Array Nat) (st:SortSt),PmK us.length p→Srt (fun i=>ks.getD i []) p us.length→(arrOf st).map (·.2)=List.toArray (p.toList.map fun i=>us.getD i Value.none)→failedOf st=none→Q st s) :
  wpAny (model prog w) A ((sortRuns').run (SortSt.mk' (tuples' true) (vs.toArray.zip us.toArray) #[] 7 none)) (fun r s'=>Q r.2 s') E s:=by
 have hk:ks.length=us.length:=by rw[← h.len,hl]
 refine kat_run (G:=fun p s'=>s'=s∧PmK us.length p∧Srt (fun i=>ks.getD i []) p us.length) hl h2 h64 (fun p st' s' h1 h3 h4 h5=>?_) ?_
 ·obtain⟨rfl,h5,h6⟩:=h5
  exact q p st' h5 h6 (kat_snds hl h3) h4
 ·have inj:∀i j,i<us.length→j<us.length→ks.getD i []=ks.getD j []→i=j:=fun i j hi hj e=>by
   have key:∀a b:Nat,a<b→b<us.length→ks.getD a []≠ks.getD b []:=fun a b hab hb=>by
    have:=List.pairwise_iff_getElem.mp nd a b (by lia) (by lia) hab
    have ea:ks.getD a []=ks[a]'(by lia):=by simp[show a<ks.length by lia]
    have eb:ks.getD b []=ks[b]'(by lia):=by simp[show b<ks.length by lia]
    rw[ea,eb];exact this
   rcases Nat.lt_trichotomy i j with z|z|z
   ·exact absurd e (key i j z hj)
   ·exact z
   ·exact absurd e.symm (key j i z hi)
  exact Pw.wp (fun i j C hi hj=>M3 h hk i j C hi hj) (fun p hp=>⟨rfl,hp⟩) _ (Tk (κ:=fun i=>ks.getD i []) inj h2)
end
noncomputable def Xu:List D→Option (List Int)
 |[]=>some []
 |.int i::r=>(Xu r).map (i :: ·)
 |_=>none
noncomputable def Lm:D→Option (List Int)
 |.tup ds=>Xu ds
 |_=>none
theorem Ui:∀{ds:List D} {ns:List Int},Xu ds=some ns→ds=ns.map D.int
 |[],ns,h=>by cases h;rfl
 |.int i::r,ns,h=>by
  simp only[Xu] at h
  cases q:Xu r with
  |none=>rw[q] at h;cases h
  |some m=>rw[q] at h;cases h;rw[Ui q];rfl
 |.non::_,_,h=>by cases h
 |.bl _::_,_,h=>by cases h
 |.str _::_,_,h=>by cases h
 |.lst _::_,_,h=>by cases h
 |.tup _::_,_,h=>by cases h
 |.scr _::_,_,h=>by cases h
 |.raw _::_,_,h=>by cases h
 |.exc _::_,_,h=>by cases h
 |.dct _ _::_,_,h=>by cases h
theorem Ll{d:D}{ns:List Int}(h:Lm d=some ns):d=.tup (ns.map D.int):=by
 cases d <;> first|cases h|skip
 rename_i ds
 rw[Ui (ds:=ds) h]
noncomputable def Yf:List D→Option (List (List Int))
 |[]=>some []
 |d::r=>match Lm d,Yf r with
  |some k,some ks=>some (k::ks)
  |_,_=>none
theorem Uf:∀{ds:List D} {ks:List (List Int)},Yf ds=some ks→ds=ks.map fun k=>D.tup (k.map D.int)
 |[],ks,h=>by cases h;rfl
 |d::r,ks,h=>by
  simp only[Yf] at h
  cases q:Lm d with
  |none=>rw[q] at h;cases h
  |some k=>
   cases q2:Yf r with
   |none=>rw[q,q2] at h;cases h
   |some ks'=>
    rw[q,q2] at h;cases h
    rw[Ll q,Uf q2];rfl
section
variable[Tabs]{X:Cx}{pins:List (Addr×Obj)}{σ:St}{F H:Hp}{s:Shared}
theorem Uh:∀{ns:List Int} {vs:List V} {us:List Value},Reps X.K F (ns.map D.int) vs→Vals vs us→IntsAre us ns
 |[],_,_,r,v=>by
  simp only[map_nil,Reps] at r;subst r
  cases v;exact .nil
 |n::ns,_,_,r,v=>by
  simp only[map_cons,Reps] at r
  refine byc fun zG=>?_
  obtain⟨x,xs,rfl,rx,rr⟩:=r
  refine zG ?_
  simp only[Rep] at rx
  subst rx
  cases v with
  |cons e t=>
   rename_i u us
   obtain⟨t',e⟩:∃t',u=Value.int n t':=e
   subst e
   exact .cons _ _ (Uh rr t)
theorem Ms(I:Inv X pins σ H s)(fh:Same F H):∀{ks:List (List Int)} {vs:List V} {us:List Value},Reps X.K F (ks.map fun k=>D.tup (k.map D.int)) vs→Vals vs us→(∀k∈ks,k≠[])→KTs s.heap us ks
 |[],_,_,r,v,_=>by
  simp only[map_nil,Reps] at r;subst r
  cases v;exact trivial
 |k::ks,_,_,r,v,ne=>by
  simp only[map_cons,Reps] at r
  refine byc fun zG=>?_
  obtain⟨x,xs,rfl,rx,rr⟩:=r
  simp only[Rep] at rx
  obtain⟨a,ws,rfl,q,t⟩:=rx
  obtain⟨its,rv,⟨o,eo,hc,n,hd⟩,hz⟩:=I.tuple (Same.seqT fh q)
  refine zG ?_
  cases v with
  |cons e tl=>
   rename_i u us
   have e:u=Value.ref a:=e
   subst e
   exact⟨⟨a,o,its.toArray,n,rfl,eo,hc,hd,by simpa using Uh t rv,ne k mem_cons_self⟩,Ms I fh rr tl fun k hk=>ne k (mem_cons_of_mem _ hk)⟩
theorem Reps.pick{K:Frag}{ds:List D}{vs:List V}(r:Reps K F ds vs):∀(q:List Nat),(∀i∈q,i<ds.length)→Reps K F (q.map fun i=>ds.getD i .non) (q.map fun i=>vs.getD i .non):=by
 intro l_
 induction l_ with
 |nil=>
  rintro _
  exact Reps.nil
 |cons i q ih_=>
  rintro h
  have hi:=h i mem_cons_self
  obtain⟨v,e1,e2⟩:=r.get (i:=i) (getElem?_eq_getElem hi)
  have z1:ds.getD i .non=ds[i]:=by simp[hi]
  have z2:vs.getD i .non=v:=by simp[e1]
  rw[map_cons,map_cons,z1,z2]
  exact Reps.cons e2 (ih_ fun j hj=>h j (mem_cons_of_mem _ hj))
theorem Wf{vs:List V}{us:List Value}(r:Vals vs us):∀(q:List Nat),(∀i∈q,i<vs.length)→Vals (q.map fun i=>vs.getD i .non) (q.map fun i=>us.getD i .none):=by
 intro l_
 induction l_ with
 |nil=>
  rintro _
  exact .nil
 |cons i q ih_=>
  rintro h
  have hi:=h i mem_cons_self
  obtain⟨u,e1,e2⟩:=r.get (i:=i) (getElem?_eq_getElem hi)
  have z1:vs.getD i .non=vs[i]:=by simp[hi]
  have z2:us.getD i .none=u:=by simp[e1]
  rw[map_cons,map_cons,z1,z2]
  exact .cons e2 (ih_ fun j hj=>h j (mem_cons_of_mem _ hj))
end
open PySem.W
section
variable{X:Cx}{pins:List (Addr×Obj)}{σ:St}{F H:Hp}{τ:DS}{s:Shared}{Q:VK}{E:Value→Shared→Prop}
theorem Inv.relist(I:Inv X pins σ H s){a:Addr}{xs ys:List V}{us ws:List Value}{n:Nat}{g:Array Value→Array Value}(e:H a=some (.lst xs))(o:s.heap.get? a=some (seqObj "list" us.toArray n))(hg:g us.toArray=ws.toArray)(r:Vals ys ws)(hz:ys.length≤sizeLine) :
  Inv X pins σ (upd H a (.lst ys)) { s with heap:=s.heap.update a (Obj.mapSeq g) }:=by
 have h1:=get?_update_seq o g
 rw[hg] at h1
 exact I.write (t':=s.toks) (by rw[e];exact trivial) (.inl rfl) (fun b u hb q=>by rw[Heap.get?_update_ne _ _ _ _ hb];exact q) ⟨_,h1⟩ ⟨hz,ws,_,r,h1⟩
theorem Inv.settle(I:Inv X (pins++[p]) σ H s){D:Addr}{n:Nat}{ys:List V}{ws:List Value}{g:Array Value→Array Value}(hp:p=(D,seqObj "list" #[] n))(hg:g #[]=ws.toArray)(r:Vals ys ws)(hz:ys.length≤sizeLine)
  (h0:X.s₀.heap.objs.size≤D) (hc:∀x c,X.env.cells.lookup x=some c→c≠D) (hn:∀q∈X.pn++pins,q.1≠D):Inv X pins σ (upd H D (.lst ys)) { s with heap:=s.heap.update D (Obj.mapSeq g) }:=by
 subst hp
 refine byc fun zG=>?_
 obtain⟨e,nD,neL,nf,_⟩:=I.pin (D,seqObj "list" #[] n) (by simp)
 refine zG ?_
 have J:Inv X pins σ H s:=I.pins_of fun q hq=>I.pin q (mem_append_right _ (mem_append_left _ hq))
 have h1:=get?_update_seq e g
 rw[hg] at h1
 have kp:∀b u,b≠D→s.heap.get? b=some u→(s.heap.update D (Obj.mapSeq g)).get? b=some u:=fun b u hb q=>by rw[Heap.get?_update_ne _ _ _ _ hb];exact q
 refine J.step (g':=s.gens) (d':=s.drawn) (t':=s.toks) (ch:=[D]) (fun b hb=>?_) (fun b o _ _ hb q _=>kp b o (by simpa using hb) q) (fun b o _ _ hb q _=>⟨o.slots,kp b o (by simpa using hb) q⟩) (fun b o hb _ q=>by rw[zr (by simpa using hb)];exact q)
  (fun b o hb q=>⟨o,kp b o (by simpa using hb) q⟩) (fun b xs q=>by rw[zr (zR q nD)];exact q) (fun b o u q=>by rw[zr (zR q nD)];exact q) (fun b ps q=>⟨#[],by rw[zr (zR q nD),q];simp⟩) (fun m hm=>?_) ?_ J.bare
 ·have:b=D:=by simpa using hb
  subst this
  exact⟨.inr h0,neL,hc,hn⟩
 ·refine byc fun zG=>?_
  obtain⟨o,es,ep,ho,r'⟩:=hm
  refine zG ?_
  exact⟨o,es,ep,kp _ o (Ne.symm neL) ho,r'⟩
 ·intro b u q
  by_cases hb:b=D
  ·subst hb
   rw[zB] at q;cases q
   exact⟨hz,ws,_,r,h1⟩
  ·rw[zr hb] at q
   refine(J.hok b u q).stay (fun c v hc' q'=>kp c v ?_ q') (fun c q'=>by rw[zr (zR q' nD)];exact q') fun c xs q'=>by rw[zr (zR q' nD)];exact q'
   rcases hc' with z|z
   ·rw[z];exact hb
   ·exact zR z nD
theorem J6:Vals ([]:List V) []:=.nil
theorem Jl{D kS:Addr}{e1:Nat}{st:SortSt}{kvs ovs:List V}{out:List Value}{P:PySem.Fin→Shared→Prop}{A:Around}(I:Inv X (pins++[(D,seqObj "list" #[] e1)]) σ H s)(hk:H kS=some (.lst kvs))(hout:(arrOf st).map (·.2)=List.toArray out)(hf:failedOf st=none)(hz:out.length<64)
  (r:Vals ovs out) (hkz:kvs.length≤sizeLine) (h0:X.s₀.heap.objs.size≤D) (hc:∀x c,X.env.cells.lookup x=some c→c≠D) (hn:∀q∈X.pn++pins,q.1≠D)
  (h:∀s',Inv X pins σ (upd (upd H kS (.lst [])) D (.lst ovs)) s'→P (.done (.ret .none)) s'):wpAny (model X.prog X.w) A (ksk_tail D false e1 (.ref kS) st) P E s:=by
 refine byc fun zG=>?_
 obtain⟨z1,its,n,rk,ek⟩:=I.hok kS _ hk
 refine zG ?_
 have lk:its.length≤sizeLine:=by rw[← rk.length];exact hkz
 have I1:=Inv.relist (g:=fun _=>#[]) I hk ek (ws:=[]) rfl J6 (zero_le _)
 obtain⟨eD,nD,_⟩:=I1.pin (D,seqObj "list" #[] e1) (by simp)
 unfold ksk_tail
 try dsimp only
 refine wpAny_bind (listUpdate_at ek rfl ?_ (by rw[size_toArray];exact lk) (zero_le _))
 refine wpAny_bind (wpAny_letGo ?_)
 refine wpAny_bind (seqEpoch_at eD rfl ?_)
 refine wpAny_bind (listUpdate_at eD rfl ?_ (zero_le _) ?_)
 ·rw[hf]
  simp only[bne_self_eq_false,Bool.false_eq_true,if_false]
  exact wpAny_pure (h _ (Inv.settle I1 rfl (ws:=out) hout r (by rw[r.length];exact le_of_lt (w6 (by lia))) h0 hc hn))
 ·simp only[Bool.false_eq_true,if_false]
  rw[hout,size_toArray]
  exact le_trans (le_of_lt (w6 (by lia))) (Nat.le_succ _)
theorem UF:∀{kz:List (List Int)} {ds:List D},kz.length=ds.length→ds.length<2→(wO (kz.zip ds)).map (·.2)=ds
 |[],[],_,_=>rfl
 |[a],[b],_,_=>rfl
 |[],_::_,h,_=>by simp at h
 |[_],[],h,_=>by simp at h
 |[_],_::_::_,h,_=>by simp at h
 |_::_::_,ds,h,h2=>by simp at h;lia
theorem zh2{Da kS:Addr}{e1:Nat}{kvs vs:List V}{us:List Value}{ds:List D}{kz:List (List Int)}{P:PySem.Fin→Shared→Prop}{A:Around}(I:Inv X (pins++[(Da,seqObj "list" #[] e1)]) σ H s)(hk:H kS=some (.lst kvs)){ks:List Value}{n:Nat}(ek:s.heap.get? kS=some (seqObj "list" ks.toArray n))(rk:Vals kvs ks)
  (fh:Same F H) (kr:Reps X.K F (kz.map fun k=>FD.D.tup (k.map FD.D.int)) kvs) (ne:∀k∈kz,k≠[]) (nd:kz.Nodup) (hl:kz.length=ds.length) (rs:Reps X.K F ds vs) (rv:Vals vs us) (hz:us.length<64)
  (h0:X.s₀.heap.objs.size≤Da) (hc:∀x c,X.env.cells.lookup x=some c→c≠Da) (hn:∀q∈X.pn++pins,q.1≠Da)
  (h:∀s' ovs,Inv X pins σ (upd (upd H kS (.lst [])) Da (.lst ovs)) s'→Reps X.K F ((wO (kz.zip ds)).map (·.2)) ovs→P (.done (.ret .none)) s'):wpAny (model X.prog X.w) A (ksk_end Da false us.toArray e1 (.ref kS) ks.toArray) P E s:=by
 have l1:ds.length=us.length:=by rw[rs.length,rv.length]
 have l2:ks.length=us.length:=by rw[← rk.length,← kr.length,length_map,hl,l1]
 have hkz:kvs.length≤sizeLine:=by rw[rk.length,l2];exact le_of_lt (w6 (by lia))
 unfold ksk_end
 try dsimp only
 simp only[Bool.false_eq_true,if_false]
 by_cases h2:us.length<2
 ·have h2':us.toArray.size<2:=by rw[size_toArray];exact h2
  rw[if_pos h2',if_pos h2']
  refine wpAny_bind (wpAny_pure ?_)
  rw[StateT.run_pure]
  refine wpAny_bind (wpAny_pure ?_)
  try dsimp only
  refine Jl (out:=us) (ovs:=vs) I hk ?_ rfl hz rv hkz h0 hc hn fun s' J=>h s' vs J ?_
  ·show((ks.toArray.zip us.toArray).map (·.2))=us.toArray
   apply Array.toList_inj.mp
   rw[Array.toList_map,ksk_zip]
   exact List.map_snd_zip (by simp[l2])
  ·rw[UF hl (by lia)];exact rs
 ·have h2':¬ us.toArray.size<2:=by rw[size_toArray];exact h2
  rw[if_neg h2',if_neg h2']
  have kt:=Ms I fh kr rk ne
  refine wpAny_bind (QF kt (by lia) ?_)
  refine wpAny_bind (Gd (Q:=fun st s'=>wpAny (model X.prog X.w) A (ksk_tail Da false e1 (.ref kS) st) P E s') kt l2 (by lia) hz nd fun p st h3 h4 h5 h6=>?_)
  have hp:∀i∈p.toList,i<us.length:=fun i hi=>by simpa using h3.mem_iff.mp hi
  refine Jl (ovs:=p.toList.map fun i=>vs.getD i .non) I hk h5 h6 ?_ (Wf rv _ fun i hi=>by rw[rv.length];exact hp i hi) hkz h0 hc hn fun s' J=>h s' _ J ?_
  ·rw[length_map,h3.length_eq,length_range];exact hz
  ·rw[← Q7 (q:=p) (d:=.non) hl nd (by rw[l1];exact h3) (by rw[l1];exact h4)]
   exact Reps.pick rs _ fun i hi=>by rw[l1];exact hp i hi
end
open PySem.W
section
variable{X:Cx}{pins:List (Addr×Obj)}{σ:St}{F H:Hp}{τ:DS}{s:Shared}{Q:VK}{E:Value→Shared→Prop}
theorem UE{l f:Addr}{ds:List D}{vs:List V}{kz:List (List Int)}(I:Inv X pins σ H s)(fh:Same F H)(hl:F l=some (.lst vs))(rs:Reps X.K F ds vs)(h64:ds.length<64)(hk:kz.length=ds.length)(nd:kz.Nodup)(ne:∀k∈kz,k≠[])
  (key:∀(i:Nat) (d:D) (k:List Int),ds[i]?=some d→kz[i]?=some k→∀(pins':List (Addr×Obj)) (s':Shared) (F' H':Hp) (v:V) (u:Value) (Q':VK),Inv X pins' σ H' s'→(∀p∈pins,p∈pins')→Ext F H F' H'→Rep X.K F' d v→RelV v u →
   (∀kv F'' H'',Ext F' H' F'' H''→Rep X.K F'' (.tup (k.map D.int)) kv→Q' kv H'')→wpAny (model X.prog X.w) X.A.in1.in1 (call (.ref f) [u]) (EP X pins' σ Q') (fun _ _=>False) s')
  (hQ:∀Da F' H',Ext F H F' H'→Rep X.K F' (.lst ((wO (kz.zip ds)).map (·.2))) (.ref Da)→Q (.ref Da) H') :
  wpAny (model X.prog X.w) X.A (call (.builtin "sorted") [.ref l] [(Str.ofString "key", .ref f)]) (EP X pins σ Q) E s:=by
 refine byc fun zG=>?_
 obtain⟨us,rv,⟨o,nn,eo,hc,hd0,hd⟩,hz⟩:=I.list (SqL.of (K:=X.K) (fh _ _ hl))
 refine zG ?_
 have hil:s.heap.IsList l us.toArray:=⟨o,eo,hc,nn,hd⟩
 have l1:ds.length=us.length:=by rw[rs.length,rv.length]
 have sz:us.length≤sizeLine:=le_of_lt (w6 (by lia))
 refine call_function_entry_kw kind_sorted plain_sorted entry_sorted (ksk_s1 _ _) ?_
 unfold Builtin.«sorted»
 refine wpAny_bind (m:=checkCount "sorted" 1 1 _) (wpAny_pure ?_)
 refine wpAny_bind (collect_list hil ?_ sz)
 refine wpAny_bind (wpAny_newList ?_ sz)
 have keep1:∀b u,s.heap.get? b=some u→((s.heap.push (seqObj "list" #[] 0)).update s.heap.objs.size (Obj.mapSeq (· ++ us.toArray))).get? b=some u:=fun b u q=>by
  have hb:b<s.heap.objs.size:=Heap.lt_size q
  rw[Heap.get?_update_ne _ _ _ _ (ne_of_lt hb),Heap.get?_push_ne _ _ _ (ne_of_lt hb)]
  exact q
 have size1:s.heap.objs.size≤((s.heap.push (seqObj "list" #[] 0)).update s.heap.objs.size (Obj.mapSeq (· ++ us.toArray))).objs.size:=by rw[Heap.size_update,size_push'];lia
 generalize hh1:(s.heap.push (seqObj "list" #[] 0)).update s.heap.objs.size (Obj.mapSeq (· ++ us.toArray))=h1 at keep1 size1
 have hD:(h1.push (seqObj "list" us.toArray 0)).get? h1.objs.size=some (seqObj "list" us.toArray 0):=Heap.get?_push_size _ rfl
 have keep2:∀b u,s.heap.get? b=some u→(h1.push (seqObj "list" us.toArray 0)).get? b=some u:=fun b u q=>get?_push_of_some _ (keep1 b u q)
 generalize hDa:h1.objs.size=Da at hD size1
 have neD:∀b u,s.heap.get? b=some u→b≠Da:=fun b u q=>ne_of_lt (lt_of_lt_of_le (Heap.lt_size q) size1)
 generalize hh2:h1.push (seqObj "list" us.toArray 0)=h2 at hD keep2
 have ltD:Da<h2.objs.size:=Heap.lt_size hD
 refine wpAny_bind (wpAny_holding (wpAny_call_entry_kw (rest:=[]) slot_list_sort ⟨_,hD,rfl⟩ entry_list_sort ?_ (ksk_l1 _ _)))
 show wpAny (model X.prog X.w) X.A.in1.in1 (Builtin.«list.sort» ⟨[.ref Da],[(Str.ofString "key", .ref f)]⟩) _ _ _
 rw[ksk_t1 f Da]
 unfold ksk_tree
 refine wpAny_bind (listItems_at hD rfl ?_)
 refine wpAny_bind (listUpdate_at hD rfl ?_ (by rw[size_toArray];exact sz) (zero_le _))
 have keep3:∀b u,s.heap.get? b=some u→(h2.update Da (Obj.mapSeq fun _=>(#[]:Array Value))).get? b=some u:=fun b u q=>by
  rw[Heap.get?_update_ne _ _ _ _ (neD b u q)];exact keep2 b u q
 obtain⟨e1,hD3⟩:∃e1,(h2.update Da (Obj.mapSeq fun _=>(#[]:Array Value))).get? Da=some (seqObj "list" #[] e1):=⟨_,get?_update_seq hD fun _=>#[]⟩
 generalize h2.update Da (Obj.mapSeq fun _=>(#[]:Array Value))=h3 at keep3 hD3
 refine wpAny_bind (seqEpoch_at hD3 rfl ?_)
 refine wpAny_bind (wpAny_newTuple ?_ (by show us.length≤sizeLine;exact sz))
 refine wpAny_bind (wpAny_newList ?_ (zero_le _))
 refine wpAny_holding ?_
 have hDa0:s.heap.objs.size≤Da:=size1
 have nH:H Da=none:=I.hok.fresh hDa0
 have neL:Da≠X.env.locals:=(ne_of_lt (lt_of_lt_of_le I.lt hDa0)).symm
 have pinD:∀q∈X.pn++pins,q.1≠Da:=fun q hq=>neD _ _ (I.pin q hq).1
 have cellD:∀x c,X.env.cells.lookup x=some c→c≠Da:=fun x c e=>by
  refine byc fun zG=>?_
  obtain⟨v,oc,hoc,_⟩:=I.cell x c e
  refine zG ?_
  exact neD _ _ hoc
 have I1:Inv X pins σ H { s with heap:=h3.push (seqObj "tuple" us.toArray 0) }:=I.kept (t':=s.toks) fun b u q=>get?_push_of_some _ (keep3 b u q)
 have I2:Inv X (pins++[(Da,seqObj "list" #[] e1)]) σ H { s with heap:=h3.push (seqObj "tuple" us.toArray 0) }:=I1.pins_of fun q hq=>by
  rcases mem_append.mp hq with hq|hq
  ·exact I1.pin q (mem_append_right _ hq)
  ·have:q=(Da,seqObj "list" #[] e1):=by simpa using hq
   subst this
   exact⟨get?_push_of_some _ hD3,nH,neL,I.nofs hDa0,fun v z=>nomatch z⟩
 have szk:s.heap.objs.size≤(h3.push (seqObj "tuple" us.toArray 0)).objs.size:=le_of_lt (Nat.lt_of_le_of_lt hDa0 (Heap.lt_size (get?_push_of_some _ hD3)))
 have hkS:H (h3.push (seqObj "tuple" us.toArray 0)).objs.size=none:=I.hok.fresh szk
 have I3:=I2.laid (t':=s.toks) (a:=(h3.push (seqObj "tuple" us.toArray 0)).objs.size) (o:=.lst []) (h':=(h3.push (seqObj "tuple" us.toArray 0)).push (seqObj "list" #[] 0)) (fun b u q=>get?_push_of_some _ q) (le_refl _) ⟨zero_le _,[],0,.nil,Heap.get?_push_size _ rfl⟩
 generalize hkk:(h3.push (seqObj "tuple" us.toArray 0)).objs.size=kS at hkS I3
 have h0D:X.s₀.heap.objs.size≤Da:=le_trans I.sz hDa0
 unfold ksk_rest
 refine wpAny_bind (wpAny_rule ?_)
 first
  | rw[List.forIn_toArray]
  | (rw[← Array.forIn_toList];simp only[List.toList_toArray])
 refine wpAny_bind (ksk_fold (fun i s'=>∃F2 Hm kvs,Ext F H F2 Hm∧Hm kS=none∧Inv X (pins++[(Da,seqObj "list" #[] e1)]) σ (upd Hm kS (.lst kvs)) s'∧Reps X.K F2 ((kz.take i).map fun k=>D.tup (k.map D.int)) kvs) us 0 _
  ⟨F,H,[],Ext.refl fh,hkS,I3,by simpa using Reps.nil⟩ ?step ?done)
 case step=>
  rintro j x s' hx ⟨F2,Hm,kvs,x2,hm,I4,rk⟩
  simp only[zero_add] at rk ⊢
  have hj:j<us.length:=(List.getElem?_eq_some_iff.mp hx).1
  refine byc fun zG=>?_
  obtain⟨d,hd⟩:∃d,ds[j]?=some d:=⟨_,getElem?_eq_getElem (by lia)⟩
  obtain⟨k,hkj⟩:∃k,kz[j]?=some k:=⟨_,getElem?_eq_getElem (by lia)⟩
  obtain⟨v,hv,rd⟩:=rs.get hd
  obtain⟨u,hu,ru⟩:=rv.get hv
  refine zG ?_
  rw[hx] at hu;cases hu
  have xo:Ext F2 Hm F2 (upd Hm kS (.lst kvs)):=Ext.open x2.fh hm
  refine wpAny_bind (wpAny_attempt (wpAny_mono (key j d k hd hkj _ s' F2 _ v x (fun kv H''=>∃F'',Ext F2 (upd Hm kS (.lst kvs)) F'' H''∧Rep X.K F'' (.tup (k.map D.int)) kv) I4 (fun p hp=>mem_append_left _ hp) (x2.trans xo) (rd.mono x2.ff) ru (fun kv F'' H'' y r=>⟨F'',y,r⟩)) (fun kval s'' hk''=>?_) fun _ _ z=>z.elim))
  refine byc fun zG=>?_
  obtain⟨kv,H'',I5,rkv,F'',x5,rp⟩:=hk''
  have hkS5:H'' kS=some (.lst kvs):=x5.hh _ _ zB
  obtain⟨z1,its,n,rki,ek⟩:=I5.hok kS _ hkS5
  refine zG ?_
  have lk:kvs.length=j:=by
   rw[← rk.length,length_map,length_take];lia
  have li:its.length=j:=by rw[← rki.length];exact lk
  have I6:=Inv.relist (g:=(·.push kval)) I5 hkS5 ek (ws:=its++[kval]) (by simp) (rki.append (.cons rkv .nil)) (by rw[length_append,lk];exact le_of_lt (w6 (by simp;lia)))
  obtain⟨y1,y2⟩:=XF x2 hm x5
  try dsimp only
  refine wpAny_bind (listUpdate_at ek rfl ?_ (by rw[size_toArray,li];exact le_of_lt (w6 (by lia))) ?_)
  ·refine wpAny_pure ⟨rfl,F'',vk H'' kS,kvs++[kv],y1,jb _ _,by rw[YN];exact I6,?_⟩
   have tk:kz.take (j+1)=kz.take j++[k]:=by
    rw[List.take_add_one,hkj];rfl
   rw[tk,map_append]
   exact(rk.mono x5.ff).append (Reps.cons rp Reps.nil)
  ·rw[Array.size_push,size_toArray,li];exact le_trans (le_of_lt (w6 (by lia))) (Nat.le_succ _)
 case done=>
  rintro s' ⟨F2,Hm,kvs,x2,hm,I4,rk⟩
  simp only[zero_add] at rk
  rw[List.take_of_length_le (by lia)] at rk
  refine byc fun zG=>?_
  obtain⟨z1,ks,n,rki,ek⟩:=I4.hok kS _ zB
  refine zG ?_
  refine wpAny_bind (listItems_at ek rfl ?_)
  have xo:Ext F2 Hm F2 (upd Hm kS (.lst kvs)):=Ext.open x2.fh hm
  refine zh2 I4 zB ek rki xo.fh rk ne nd hk (rs.mono x2.ff) rv (by lia) h0D cellD pinD fun s5 ovs J ro=>?_
  refine⟨_,rfl,wpAny_pure ⟨_,rfl,.ref Da,_,J,rfl,hQ Da (upd F2 Da (.lst ovs)) _ ?_ ?_⟩⟩
  ·have hmD:Hm Da=none:=by
    obtain⟨_,nD,_⟩:=I4.pin (Da,seqObj "list" #[] e1) (by simp)
    by_cases z:Da=kS
    ·rw[z];exact hm
    ·rw[zr z] at nD;exact nD
   have eq1:upd (upd (upd Hm kS (.lst kvs)) kS (.lst [])) Da (.lst ovs)=upd (upd Hm kS (.lst [])) Da (.lst ovs):=by
    congr 1;funext b;unfold upd;split <;> rfl
   rw[eq1]
   have kD:(upd Hm kS (.lst [])) Da=none:=by
    obtain⟨_,nD,_⟩:=I4.pin (Da,seqObj "list" #[] e1) (by simp)
    by_cases z:Da=kS
    ·rw[z,zB] at nD;cases nD
    ·rw[zr z];exact hmD
   exact(x2.trans (Ext.open (o:=.lst []) x2.fh hm)).trans (Ext.new ((x2.trans (Ext.open (o:=.lst []) x2.fh hm)).fh) kD)
  ·have hF:F2 Da=none:=by
    obtain⟨_,nD,_⟩:=I4.pin (Da,seqObj "list" #[] e1) (by simp)
    exact zX xo.fh nD
   simp only[Rep]
   exact⟨Da,ovs,rfl,zB,ro.mono (yr hF)⟩
end
open PySem.W
noncomputable def _root_.L2.Cx.lam(X:Cx)(scope:Scope)(N:List Str)(s:Shared)(H:Hp)(qual:Str)(f:Addr)(cd:Value):Cx:=
 { prog:=X.prog,w:=X.w,K:=X.K,mg:=X.mg,base:=X.base,A:=X.A.in1.in1.deeper (envX qual scope s.heap.objs.size f cd (wA scope X.env)),N:=N,s₀:=s,H₀:=H,env:=envX qual scope s.heap.objs.size f cd (wA scope X.env),outer:=X.stack,
   stack:=envX qual scope s.heap.objs.size f cd (wA scope X.env)::X.stack,ex:=[],fn:=fun _=>false,calm:=true,pn:=[],xe:=fun _ _=>False }
section
variable{X:Cx}{scope:Scope}{N':List Str}{pins:List (Addr×Obj)}{σ σ':St}{F H:Hp}{τ:DS}{s:Shared}
theorem Lk{h1:Heap}{t:Nat}{qual p:Str}{f:Addr}{cd u:Value}{v:V}(S:xX X scope)(hd:X.A.handled=none)(I:Inv X pins σ H s)(hp:scope.names.lookup p=some .local)(hN:N'[0]?=some p)(rv:RelV v u)
  (hn:h1.Ns s.heap.objs.size fun x=>([(p,u)]:List (Str×Value)).reverse.lookup x) (hsb:∀b o,s.heap.get? b=some o→h1.get? b=some o) (hl:σ'.length=N'.length) (h0:σ'[0]?=some (some v))
  (hσ:∀(i:Nat) (v:V),i≠0→σ'[i]?=some (some v)→∃(x:Str) (j:Nat),N'[i]?=some x∧X.N[j]?=some x∧σ[j]?=some (some v)∧scope.names.lookup x=some .free) :
  Inv (X.lam scope N' s H qual f cd) [] σ' H { s with heap:=h1,toks:=t }:=by
 have hH:H s.heap.objs.size=none:=I.hok.fresh (le_refl _)
 have cl:∀{x c},(wA scope X.env).lookup x=some c→X.env.cells.lookup x=some c:=fun h=>Z6 S I.ok h
 have kept:∀{c v},s.heap.IsCell c v→h1.IsCell c v:=fun ⟨o,e,d⟩=>⟨o,hsb _ o e,d⟩
 have noA:∀b:Addr,b∉(X.lam scope N' s H qual f cd).ex:=fun b z=>absurd (show b∈([]:List Addr) from z) (by simp)
 refine⟨⟨I.ok.mod,S.kind,rfl,rfl,le_refl _,fun x y c e1 e2=>I.ok.inj x y c (cl e1) (cl e2),fun x hx=>?_,fun x c hf _=>absurd hf (by simp[Cx.lam]),fun _=>hd,Around.frames_deeper (show X.A.in1.in1.frames=some X.stack from I.ok.frames),.inr ⟨rfl,rfl⟩,fun b z=>absurd z (noA b),I.bs,le_trans I.ok.bsz I.sz,fun b _ _=>noA b,fun b z=>absurd z (noA b),I.stack,I.stkFree⟩,
  I.os.symm ▸ rfl,I.bare,Un.kept hsb,⟨_,hn,fun i x v' e1 e2 e3=>?_⟩,fun x c e=>?_,hH,fun x c e=>I.freeC x c (cl e),fun p hp=>absurd (show p∈([]:List (Addr×Obj)) from hp) (by simp),I.hok.kept hsb,hl⟩
 ·have hx:scope.names.lookup x=some .cell∨scope.names.lookup x=some .free:=hx
  rcases hx with z|z
  ·exact absurd rfl (S.nocell _ (PySem.mem_of_lookup z))
  ·exact jg (.inl ⟨_,PySem.mem_of_lookup z,rfl,rfl⟩)
 ·have e1:N'[i]?=some x:=e1
  by_cases hi:i=0
  ·subst hi
   rw[hN] at e1;cases e1
   rw[h0] at e2;cases e2
   exact⟨u,rv,.inl ⟨hp,by simp[List.lookup]⟩⟩
  ·refine byc fun zG=>?_
   obtain⟨x',j,e4,e5,e6,e9⟩:=hσ i v' hi e2
   refine zG ?_
   have hy:=PySem.mem_of_lookup e9
   rw[e1] at e4;cases e4
   have kd:=S.free _ hy rfl
   refine byc fun zG=>?_
   obtain⟨m,hm,hl⟩:=I.loc
   obtain⟨u',ru,lk⟩:=hl j x v' e5 e6 (kd.elim (fun z=>.inr (.inl z)) fun z=>.inr (.inr z))
   refine zG ?_
   refine⟨u',ru,?_⟩
   rcases lk with ⟨z,_⟩|⟨z,c,hc,hcell⟩
   ·rcases kd with k|k <;> rw[k] at z <;> cases z
   ·obtain⟨c',hc'⟩:=jg (env:=X.env) (names:=scope.names) (cs:=[]) (x:=x) (.inl ⟨_,hy,rfl,rfl⟩)
    have:=cl hc'
    rw[hc] at this;cases this
    exact .inr ⟨.inr e9,c,hc',kept hcell⟩
 ·obtain⟨v,z⟩:=I.cell x c (cl e)
  exact⟨v,kept z⟩
noncomputable def QE(idx:List Nat)(fb:FE)(τ:DS)(d:D):Rs D:=fb ((v6 1 idx τ).set 0 (some (.val d)))
theorem Mr{f c':Addr}{qual p:Str}{params:Arguments}{body:Expr}{pm ctv u:Value}{v:V}{d dk:D}{fr:List Str}{idx:List Nat}{fb:FE}{Q:VK}(S:xX X scope)(hr:Room 3 X.A)(hfr:FreeOk scope X.N fr idx)(hp:scope.names.lookup p=some .local)
  (hco:scope.isCoroutine=false) (hgen:scope.isGenerator=false) (hbind:∀(pm cd ct:Value) (cl:List (Str×Addr)) (u:Value),bindArgs (kla_fn "<lambda>" qual params body scope cl pm cd ct) ⟨[u],[]⟩=pure [(p,u)])
  (hb:∀s H f cd,PDE (X.lam scope (p::fr) s H qual f cd) body fb)
  (I:Inv X pins σ H s) (R:RV X.K F τ σ H) (ho:s.heap.get? f=some (kla_obj "<lambda>" qual params body scope (wA scope X.env) pm c' ctv)) (hc:H c'=some (.ext (XM c' qual))) (rd:Rep X.K F d v) (ru:RelV v u) (hk:QE idx fb τ d=.ok dk)
  (hQ:∀kv F1 H1,Ext F H F1 H1→Rep X.K F1 dk kv→Q kv H1):wpAny (model X.prog X.w) X.A.in1.in1 (call (.ref f) [u]) (EP X pins σ Q) (fun _ _=>False) s:=by
 have hcd:s.heap.CodeRec (.ref c') qual:=(I.hok c' _ hc).1
 refine wpAny_call (kla_callFunE (args:=⟨[u],[]⟩) (hr.in1.in1).depth ho rfl hco hgen rfl hcd ?_)
 rw[hbind]
 refine wpAny_pure (wpAny_newFunctionEnv S.nocell (fun y hy=>?_) (fun h1 hns hsb=>⟨(I.mod.nolimit.keeps I.bk).fresh _ hsb,?_⟩) S.kind)
 ·have:y=(p,u):=by simpa using hy
  subst this;exact hp
 have keep3:∀b o,s.heap.get? b=some o→h1.get? b=some o:=fun b o e=>hsb.extBut b o (ne_of_lt (Heap.lt_size e)) (get?_push_of_some _ e)
 show codeAny _ _ (.expr body (envX qual scope s.heap.objs.size f (.ref c') (wA scope X.env))) _ _
 have hlen:(uq 1 idx σ).length=(p::fr).length:=by simp[uq,hfr.len]
 have hl0:0<(uq 1 idx σ).length:=by rw[hlen];simp
 have J:Inv (X.lam scope (p::fr) s H qual f (.ref c')) [] ((uq 1 idx σ).set 0 (some v)) H { s with heap:=h1,toks:=s.toks+([(p,u)]:List (Str×Value)).length }:=
  Lk S hr.hd I hp rfl ru hns keep3 (by rw[List.length_set];exact hlen) (by rw[getElem?_set_self hl0]) fun i v' hi e=>by
   rw[getElem?_set_ne (Ne.symm hi)] at e
   exact Yt (tn:=[p]) hfr σ i v' e
 refine kla_codeExpr (wpAny_mono (hb s H f (.ref c') [] _ _ H (fun kv H1=>∃F1,Ext F H F1 H1∧Rep X.K F1 dk kv) J ⟨F,(v6 1 idx τ).set 0 (some (.val d)),(WU 1 idx R).set rd,?_⟩) (fun w s5 h5=>?_) fun _ _ z=>z.elim)
 ·have hk:fb ((v6 1 idx τ).set 0 (some (.val d)))=.ok dk:=hk
  rw[hk]
  exact fun kv F1 H1 x r=>⟨F1,x,r⟩
 ·refine byc fun zG=>?_
  obtain⟨kv,H5,I5,r5,F5,x5,rk⟩:=h5
  refine zG ?_
  exact⟨kv,H5,I.call' (ch:=[]) I5.os I5.base I5.hok I5.bare (fun b z=>absurd z (by simp)),r5,hQ kv F5 H5 x5 rk⟩
end
open PySem.W
noncomputable def TabsU:Prop:=∀r∈Tabs.rows,∀r'∈Tabs.rows,r.1=r'.1→r=r'
theorem Xm{α β:Type}{f:α→β}:∀{l:List α},(l.map f).Nodup→∀r∈l,∀r'∈l,f r=f r'→r=r'
 |[],_,_,h,_,_,_=>by cases h
 |a::l,nd,r,h,r',h',e=>by
  rw[map_cons,nodup_cons] at nd
  rcases mem_cons.mp h with z|z
  ·rcases mem_cons.mp h' with z' | z'
   ·rw[z,z']
   ·rw[z] at e
    exact absurd (mem_map.mpr ⟨r',z',e.symm⟩) nd.1
  ·rcases mem_cons.mp h' with z' | z'
   ·rw[z'] at e
    exact absurd (mem_map.mpr ⟨r,z,e⟩) nd.1
   ·exact Xm nd.2 r z r' z' e
theorem TabsU.of(h:(Tabs.rows.map (·.1)).Nodup):TabsU:=Xm h
section
variable{X:Cx}{scope:Scope}{pins:List (Addr×Obj)}{σ:St}{F H:Hp}{τ:DS}{s:Shared}
theorem Mq{params:Arguments}{body:Expr}{lpos:Pos}{P c:Addr}{E:Value→Shared→Prop}{Q:Value→Shared→Prop}(tu:TabsU)(S:xX X scope)(bm:BM X.mg X.base)(hcode:X.env.code=.ref c)(hcd:codeHdIn X.K c P=true)(hrow:(P,lpos.line,lpos.col,X.env.qual ++ "<lambda>")∈Tabs.rows)
  (hdef:defaultsOf params X.env=([],[])) (I:Inv X pins σ H s) (fh:Same F H) (tt:TbT F H)
  (h:∀(f c':Addr) (pm ctv:Value) (H':Hp) (s':Shared),Inv X (pins++[(f,kla_obj "<lambda>" (X.env.qual ++ "<lambda>") params body scope (wA scope X.env) pm c' ctv)]) σ H' s'→Ext F H F H'→H' c'=some (.ext (XM c' (X.env.qual ++ "<lambda>")))→Q (.ref f) s') :
  wpAny (model X.prog X.w) X.A (eval (.Lambda params body scope lpos) X.env) Q E s:=by
 refine byc fun zG=>?_
 obtain⟨bma,ob,b1,b2,b3,b4,b5,b6⟩:=bm
 obtain⟨b3,bH⟩:=I.bs _ _ b3
 have hgs:s.heap.Ns mainGlobals X.mg:=I.mod.glob.keeps I.bk
 have C:CodeHd s.heap c P:=codeHd_of_K (I.mod.kin.keeps I.bk) hcd
 have hcl:closureFor scope X.env=pure (wA scope X.env):=v8 fun y hy e=>by
  obtain⟨c,hc⟩:=I.ok.has _ (S.free y hy e)
  rw[hc];rfl
 have hbG:bma≠mainGlobals:=fun q=>by
  obtain⟨o,es,ep,e,hd,_⟩:=hgs
  rw[← q,b3] at e;cases e;rw[b6] at hd;cases hd
 obtain⟨tF,tt0⟩:=tt.1 _ hrow
 have hPs:∃ps,H P=some (.tbl ps):=by
  rcases tt0 with e|⟨c',e,_⟩
  ·exact⟨_,e⟩
  ·exact⟨_,e⟩
 obtain⟨ps0,hP0⟩:=hPs
 refine zG ?_
 have hbP:bma≠P:=fun q=>by rw[q,hP0] at bH;cases bH
 have B:s.heap.BuiltinsAt X.mg P:=⟨bma,ob,b1,b2,hbG,hbP,b3,b4,b5,b6⟩
 refine kla_eval hdef ?_
 rcases tt0 with e|⟨c',e,ec⟩
 ·-- the first time
  have e:H P=some (.tbl #[]):=e
  have hP:s.heap.get? P=some (tabObj #[]):=I.hok P _ e
  have hgP:mainGlobals≠P:=fun q=>by
   refine byc fun zG=>?_
   obtain⟨o,es,ep,e',hd,_⟩:=hgs
   refine zG ?_
   rw[q,hP] at e';cases e';cases hd
  refine kla_makeFunction (mg:=X.mg) hcl I.ok.glob hgs hcode C hP trivial rfl hgP B fun c' ctv h' tk hx hge hlt hrec htb=>?_
  have hc0:H c'=none:=I.hok.fresh hge
  have hPc:P≠c':=fun z=>by rw[z,hc0] at e;cases e
  have hsz:s.heap.objs.size≤h'.objs.size:=le_trans hge (le_of_lt hlt)
  have htb:h'.get? P=some (tabObj #[rawInt lpos.line,rawInt lpos.col,.ref c']):=by simpa using htb
  let H':Hp:=upd (upd H P (.tbl #[rawInt lpos.line,rawInt lpos.col,.ref c'])) c' (.ext (XM c' (X.env.qual ++ "<lambda>")))
  have hne:∀b,b≠P→b≠c'→H' b=H b:=fun b z1 z2=>by show upd (upd H P _) c' _ b=H b;rw[zr z2,zr z1]
  have hP':H' P=some (.tbl #[rawInt lpos.line,rawInt lpos.col,.ref c']):=by show upd (upd H P _) c' _ P=_;rw[zr hPc,zB]
  have hc':H' c'=some (.ext (XM c' (X.env.qual ++ "<lambda>"))):=zB
  let fo:Obj:=kla_obj "<lambda>" (X.env.qual ++ "<lambda>") params body scope (wA scope X.env) ((X.mg "__name__").getD .none) c' ctv
  have kp:∀b o,b≠P→s.heap.get? b=some o→(h'.push fo).get? b=some o:=fun b o z q=>get?_push_of_some _ (hx b o z q)
  have nc:∀b o,s.heap.get? b=some o→b≠c':=fun b o q=>ne_of_lt (lt_of_lt_of_le (Heap.lt_size q) hge)
  have nP:∀b,H b=none→b≠P:=fun b q z=>by rw[z,e] at q;cases q
  have J:Inv X pins σ H' { s with heap:=h'.push fo,toks:=tk }:=by
   refine I.un (t':=tk) ⟨fun b o q n _ _=>kp b o (nP b n) q,fun b o q n _ _=>⟨o.slots,kp b o (nP b n) q⟩,fun b o q n _=>by rw[hne b (nP b n) (nc b o q)];exact n,fun b o q _=>?_,fun b xs q=>?_,fun b o u q=>?_,fun b ps q=>?_⟩ fun b u q=>?_
   ·by_cases z:b=P
    ·subst z;exact⟨_,get?_push_of_some _ htb⟩
    ·exact⟨o,kp b o z q⟩
   ·rw[hne b (fun z=>by rw[z,e] at q;cases q) (fun z=>by rw[z,hc0] at q;cases q)];exact q
   ·rw[hne b (fun z=>by rw[z,e] at q;cases q) (fun z=>by rw[z,hc0] at q;cases q)];exact q
   ·by_cases z:b=P
    ·subst z
     rw[e] at q;cases q
     exact⟨#[rawInt lpos.line,rawInt lpos.col,.ref c'],by rw[hP'];simp⟩
    ·exact⟨#[],by rw[hne b z (fun z=>by rw[z,hc0] at q;cases q),q];simp⟩
   ·by_cases z2:b=c'
    ·subst z2
     rw[hc'] at q;cases q
     have hr2:(h'.push fo).CodeRec (.ref b) (X.env.qual ++ "<lambda>"):=by
      refine byc fun zG=>?_
      obtain⟨c2,oc,vs,t,g1,g2,g3,g4⟩:=hrec
      refine zG ?_
      exact⟨c2,oc,vs,t,g1,get?_push_of_some _ g2,g3,g4⟩
     refine⟨hr2,?_,fun h1 h2 g k=>?_⟩
     ·refine byc fun zG=>?_
      obtain⟨c2,oc,vs,t,g1,g2,g3,g4⟩:=hr2
      refine zG ?_
      cases g1
      exact⟨oc,g2⟩
     ·refine byc fun zG=>?_
      obtain⟨c2,oc,vs,t,g1,g2,g3,g4⟩:=g
      refine zG ?_
      cases g1
      exact⟨_,oc,vs,t,rfl,k _ g2,g3,g4⟩
    ·by_cases z:b=P
     ·subst z
      rw[hP'] at q;cases q
      exact get?_push_of_some _ htb
     ·rw[hne b z z2] at q
      refine(I.hok b u q).stay (fun d v hd qd=>kp d v ?_ qd) (fun d qd=>?_) fun d xs qd=>?_
      ·rcases hd with y|y
       ·rw[y];exact z
       ·exact fun y'=>by rw[y',e] at y;cases y
      ·rw[hne d (fun y=>by rw[y,e] at qd;cases qd) (fun y=>by rw[y,hc0] at qd;cases qd)];exact qd
      ·rw[hne d (fun y=>by rw[y,e] at qd;cases qd) (fun y=>by rw[y,hc0] at qd;cases qd)];exact qd
  have hfz:s.heap.objs.size≤h'.objs.size:=hsz
  have nf:H' h'.objs.size=none:=by
   rw[hne _ (ne_of_gt (lt_of_lt_of_le (Heap.lt_size hP) hfz)) (ne_of_gt hlt)]
   exact I.hok.fresh hfz
  refine h h'.objs.size c' ((X.mg "__name__").getD .none) ctv H' _ (J.pins_of fun q hq=>?_) ⟨Same.refl F,fun b o q=>?_,fun b o q=>?_,fun _ _ q=>.inl q,fun t=>⟨fun r hr=>?_,fun d b q=>?_⟩⟩ hc'
  ·rcases mem_append.mp hq with hq|hq
   ·exact J.pin q (mem_append_right _ hq)
   ·have:q=(h'.objs.size,fo):=by simpa using hq
    subst this
    exact⟨Heap.get?_push_size _ rfl,nf,(ne_of_lt (lt_of_lt_of_le I.lt hfz)).symm,I.nofs hfz,fun v z=>nomatch z⟩
  ·by_cases z:b=P
   ·subst z;rw[e] at q;cases q;exact⟨_,hP'⟩
   ·exact .of (by rw[hne b z (fun z=>by rw[z,hc0] at q;cases q)];exact q)
  ·have q':=fh b o q
   rw[hne b (fun z=>by rw[z,show F P=none from tF] at q;cases q) (fun z=>by rw[z,hc0] at q';cases q')]
   exact q'
  ·by_cases z:r.1=P
   ·obtain rfl:=tu r hr _ hrow z
    exact⟨tF,.inr ⟨c',hP',hc'⟩⟩
   ·obtain⟨t1,t2⟩:=t.1 r hr
    refine⟨t1,?_⟩
    rcases t2 with q|⟨c2,q,q2⟩
    ·exact .inl (by rw[hne _ z (fun z=>by rw[z,hc0] at q;cases q)];exact q)
    ·exact .inr ⟨c2,by rw[hne _ z (fun z=>by rw[z,hc0] at q;cases q)];exact q,by rw[hne _ (fun z=>by rw[z,e] at q2;cases q2) (fun z=>by rw[z,hc0] at q2;cases q2)];exact q2⟩
  ·have q:H d=some (.own b):=by
    by_cases z2:d=c'
    ·rw[z2,hc'] at q;cases q
    ·by_cases z:d=P
     ·rw[z,hP'] at q;cases q
     ·rw[hne d z z2] at q;exact q
   refine byc fun zG=>?_
   obtain⟨C,dx,vs,q2⟩:=t.2 d b q
   refine zG ?_
   exact⟨C,dx,vs,by rw[hne b (fun z=>by rw[z,e] at q2;cases q2) (fun z=>by rw[z,hc0] at q2;cases q2)];exact q2⟩
 ·-- again
  have e:H P=some (.tbl #[rawInt lpos.line,rawInt lpos.col,.ref c']):=e
  have hP:s.heap.get? P=some (tabObj #[rawInt lpos.line,rawInt lpos.col,.ref c']):=I.hok P _ e
  refine kla_makeFunctionHit (mg:=X.mg) (cv:=.ref c') hcl I.ok.glob hgs hcode C hP trivial (codeAmong_snoc (c:=.ref c') [] trivial rfl) B fun ctv h' tk hk hsz=>?_
  let fo:Obj:=kla_obj "<lambda>" (X.env.qual ++ "<lambda>") params body scope (wA scope X.env) ((X.mg "__name__").getD .none) c' ctv
  have J:Inv X pins σ H { s with heap:=h'.push fo,toks:=tk }:=I.kept (t':=tk) fun b u q=>get?_push_of_some _ (hk b u q)
  refine h h'.objs.size c' ((X.mg "__name__").getD .none) ctv H _ (J.pins_of fun q hq=>?_) (Ext.refl fh) ec
  rcases mem_append.mp hq with hq|hq
  ·exact J.pin q (mem_append_right _ hq)
  ·have:q=(h'.objs.size,fo):=by simpa using hq
   subst this
   exact⟨Heap.get?_push_size _ rfl,I.hok.fresh hsz,(ne_of_lt (lt_of_lt_of_le I.lt hsz)).symm,I.nofs hsz,fun v z=>nomatch z⟩
noncomputable def vA(idx:List Nat)(fb:FE)(τ:DS):List D→Rs (List D)
 |[]=>.ok []
 |d::r=>match QE idx fb τ d with
  |.ok k=>match vA idx fb τ r with
   |.ok ks=>.ok (k::ks)
   |_=>.no
  |_=>.no
theorem Ye{idx:List Nat}{fb:FE}{τ:DS}:∀{ds ks:List D},vA idx fb τ ds=.ok ks→ks.length=ds.length∧∀(i:Nat) (d k:D),ds[i]?=some d→ks[i]?=some k→QE idx fb τ d=.ok k
 |[],ks,h=>by cases h;exact⟨rfl,fun i d k e=>by simp at e⟩
 |d::r,ks,h=>by
  unfold vA at h
  cases q:QE idx fb τ d with
  |no=>rw[q] at h;cases h
  |ex c=>rw[q] at h;cases h
  |ok k=>
   rw[q] at h
   simp only at h
   cases q2:vA idx fb τ r with
   |no=>rw[q2] at h;cases h
   |ex c=>rw[q2] at h;cases h
   |ok ks'=>
    rw[q2] at h;cases h
    obtain⟨l,g⟩:=Ye q2
    refine⟨by simp[l],fun i d' k' e1 e2=>?_⟩
    cases i with
    |zero=>simp at e1 e2;subst e1;subst e2;exact q
    |succ i=>exact g i d' k' (by simpa using e1) (by simpa using e2)
noncomputable def ZO(ks ds:List D):Rs D:=match Yf ks with
 |some kz=>if ds.length<64∧kz.Nodup∧(∀k∈kz,k≠[]) then .ok (.lst ((wO (kz.zip ds)).map (·.2))) else .no
 |none=>.no
noncomputable def XH(idx:List Nat)(fe fb:FE):FE:=fun τ=>(fe τ).bind fun d=>match d with
 |.lst ds=>match vA idx fb τ ds with
  |.ok ks=>ZO ks ds
  |_=>.no
 |_=>.no
theorem Qb{X:Cx}{ks ds:List D}{P:D→Prop}(h:Ok X (ZO ks ds) P):∃kz:List (List Int),ks=kz.map (fun k=>D.tup (k.map D.int))∧ds.length<64∧kz.Nodup∧(∀k∈kz,k≠[])∧P (.lst ((wO (kz.zip ds)).map (·.2))):=by
 unfold ZO at h
 cases q:Yf ks with
 |none=>rw[q] at h;exact h.elim
 |some kz=>
  rw[q] at h
  simp only at h
  by_cases z:ds.length<64∧kz.Nodup∧(∀k∈kz,k≠[])
  ·rw[if_pos z] at h
   exact⟨kz,Uf q,z.1,z.2.1,z.2.2,h⟩
  ·rw[if_neg z] at h;exact h.elim
theorem Qo{x p:Str}{pp pos lpos kp:Pos}{e body:Expr}{params:Arguments}{fr:List Str}{idx:List Nat}{fe fb:FE}{P c:Addr}(hg:Gl X x)(hm:X.mg x=none)(hv:bootBuiltins x=some (.builtin "sorted"))(he:PDE X e fe)
  (hr:Room 3 X.A) (tu:TabsU) (bm:BM X.mg X.base) (hcode:X.env.code=.ref c) (hcd:codeHdIn X.K c P=true) (hrow:(P,lpos.line,lpos.col,X.env.qual ++ "<lambda>")∈Tabs.rows)
  (hsc:jC X.env.scope scope=true) (hfr:FreeOk scope X.N fr idx) (hp:scope.names.lookup p=some .local) (hco:scope.isCoroutine=false) (hgen:scope.isGenerator=false)
  (hbind:∀(pm cd ct:Value) (cl:List (Str×Addr)) (u:Value),bindArgs (kla_fn "<lambda>" (X.env.qual ++ "<lambda>") params body scope cl pm cd ct) ⟨[u],[]⟩=pure [(p,u)])
  (hb:∀s H f cd,PDE (X.lam scope (p::fr) s H (X.env.qual ++ "<lambda>") f cd) body fb) (hdef:defaultsOf params X.env=([],[]):=by rfl)
  (hn:x ≠ "__name__" := by decide) (hdb:(x==("__debug__" : Str))=false:=by decide) (h1:starEach [e] X.env=(false,eval e X.env)::starEach [] X.env:=by rfl) :
  PDE X (.Call (.Name x pp) [e] [⟨some "key", .Lambda params body scope lpos,kp⟩] pos) (XH idx fe fb):=by
 rintro pins s σ H Q I ⟨F,τ,R,hq⟩
 have S:xX X scope:=vC hsc
 refine wpAny_Call_Name_kw (u9 I hg hm hv ?_ hn hdb)
 refine callWith_kw ?_ (by rw[h1];rfl) (by rw[h1];rfl)
 have hqb:=hq.bind
 have ha:PDA X [e] (za fe zg):=zb he zj (by rw[h1])
 refine thn (ha pos pins s σ H (fun vs H1=>∃F1 d v,vs=[v]∧Ext F H F1 H1∧Rep X.K F1 d v∧fe τ=.ok d) I ⟨F,τ,R,?_⟩) fun us s1 hA=>?_
 ·unfold za zg
  cases z:fe τ with
  |no=>rw[z] at hqb;exact hqb.elim
  |ex cc=>rw[z] at hqb;exact hqb
  |ok d=>
   intro vs F1 H1 x1 rr
   obtain⟨v,rfl,rd⟩:=Reps.one rr
   exact⟨F1,d,v,rfl,x1,rd,rfl⟩
 refine byc fun zG=>?_
 obtain⟨vs,H1,I1,rvs,F1,d,v,rfl,x1,rd,ed⟩:=hA
 obtain⟨u,rfl,ru⟩:=Vals.one rvs
 refine zG ?_
 rw[ed] at hqb
 have hqb:Ok X (match d with
  |.lst ds=>match vA idx fb τ ds with
   |.ok ks=>ZO ks ds
   |_=>.no
  |_=>.no) (Ev X.K F H Q):=hqb
 cases d with
 |lst ds=>
  simp only at hqb
  cases z:vA idx fb τ ds with
  |no=>rw[z] at hqb;exact hqb.elim
  |ex cc=>rw[z] at hqb;exact hqb.elim
  |ok ks=>
   rw[z] at hqb
   refine byc fun zG=>?_
   obtain⟨kz,ek,h64,nd,ne,hq⟩:=Qb (X:=X) hqb
   obtain⟨lk,hkeys⟩:=Ye z
   simp only[Rep] at rd
   obtain⟨l,ws,rfl,hF1,rs⟩:=rd
   refine zG ?_
   obtain rfl:u=Value.ref l:=ru
   refine kws_cons ?_
   refine Mq (P:=P) (c:=c) tu S bm hcode hcd hrow hdef I1 x1.fh (x1.tt R.tt) fun f c' pm ctv H2 s2 I2 x2 hc2=>?_
   refine kws_nil ?_
   have R2:RV X.K F1 τ σ H2:=(R.ext x1).ext x2
   refine wpAny_mono (UE (E:=X.xe) (Q:=Q) (F:=F1) (kz:=kz) I2 x2.fh hF1 rs h64 (by rw[← lk,ek,length_map]) nd ne (fun i d k hd hk pins' s' F' H' v u Q' I' hpin x' rd' ru' hQ'=>?_) fun Da F' H' x' r'=>?_) (fun w s3 ⟨v3,H3,I3,r3,q3⟩=>⟨v3,H3,I3.pins_of fun q hq=>I3.pin q (mem_append_right _ (mem_append_left _ hq)),r3,q3⟩) fun _ _ z=>z
   ·refine Mr S hr hfr hp hco hgen hbind hb I' (R2.ext x') (I'.pin _ (mem_append_right _ (hpin _ (mem_append_right _ (mem_singleton.mpr rfl))))).1 (x'.hh _ _ hc2) rd' ru' (hkeys i d _ hd ?_) hQ'
    rw[ek,getElem?_map,hk];rfl
   ·exact hq _ F' H' ((x1.trans x2).trans x') r'
 |_=>exact hqb.elim
end
section
variable{prog:Program}{w:World}{A:Around}{R:Result→Shared→Prop}{E:Value→Shared→Prop}{I S:Addr}{fp wr:List Addr}{n:Nat}{P:Nat→Value→Prop}{St:Nat→Heap→Prop}{kw:List (Str×Value)}
end
variable[Tabs]
section
variable{X:Cx}{pos pp kp:Pos}{e e2:Expr}{fe f2:FE}
end
open Classical in
noncomputable def XB(τ:DS)(σ:St)(F H:Hp):Hp:=fun a=>if ∃(i:Nat) (ds:List D),τ[i]?=some (some (.own ds))∧σ[i]?=some (some (.ref a)) then H a else F a
noncomputable def frzS:Option Sl→Option Sl
 | some (.own ds)=>some (.val (.lst ds))
 |o=>o
noncomputable def Z4(τ:DS):DS:=τ.map frzS
theorem ul{τ:DS}{i:Nat}{o:Sl}(h:(Z4 τ)[i]?=some (some o)):(∃d,o=.val d∧τ[i]?=some (some (.val d)))∨(∃ds,o=.val (.lst ds)∧τ[i]?=some (some (.own ds)))∨(Vm (some o)=true∧τ[i]?=some (some o)):=by
 unfold Z4 at h
 rw[getElem?_map] at h
 cases q:τ[i]? with
 |none=>rw[q] at h;cases h
 |some x=>
  rw[q] at h
  cases x with
  |none=>cases h
  |some sl=>
   cases sl with
   |val d=>cases h;exact .inl ⟨d,rfl,rfl⟩
   |own ds=>cases h;exact .inr (.inl ⟨ds,rfl,rfl⟩)
   |obj n c fs=>cases h;exact .inr (.inr ⟨rfl,rfl⟩)
   |obr c fs=>cases h;exact .inr (.inr ⟨rfl,rfl⟩)
theorem wW{τ:DS}{i:Nat}{o:Sl}(ho:Vm (some o)=true)(h:(Z4 τ)[i]?=some (some o)):τ[i]?=some (some o):=by
 rcases ul h with ⟨_,e1,_⟩|⟨_,e1,_⟩|⟨_,e2⟩
 ·subst e1;cases ho
 ·subst e1;cases ho
 ·exact e2
section
variable{K:Frag}{B Z F H:Hp}{τ:DS}{σ:St}
theorem jd(R:RV K F τ σ H):Same F (XB τ σ F H):=fun b o e=>by
 unfold XB
 split
 ·rename_i h
  refine byc fun zG=>?_
  obtain⟨i,ds,h1,h2⟩:=h
  obtain⟨a,vs,q1,q2,q3,q4⟩:=R.own i ds h1
  refine zG ?_
  rw[h2] at q1;cases q1
  rw[q3] at e;cases e
 ·exact e
theorem RV.frz(R:RV K F τ σ H):RV K (XB τ σ F H) (Z4 τ) σ H:=by
 refine⟨fun b o e=>?_,by unfold Z4;rw[length_map];exact R.len,fun i d e=>?_,fun i ds e=>?_,fun i j ds es a _ h1 _ _ _=>?_,⟨fun r hr=>?_,R.tt.2⟩,?_⟩
 ·unfold XB at e
  split at e
  ·exact e
  ·exact R.fh b o e
 ·rcases ul e with ⟨d',e1,e2⟩|⟨ds,e1,e2⟩|⟨e1,e2⟩
  ·cases e1
   obtain⟨v,h1,h2⟩:=R.val i d e2
   exact⟨v,h1,h2.mono (jd R)⟩
  ·cases e1
   refine byc fun zG=>?_
   obtain⟨a,vs,q1,q2,q3,q4⟩:=R.own i ds e2
   refine zG ?_
   refine⟨_,q1,?_⟩
   simp only[Rep]
   refine⟨a,vs,rfl,?_,q4.mono (jd R)⟩
   unfold XB
   rw[if_pos ⟨i,ds,e2,q1⟩];exact q2
  ·cases e1
 ·rcases ul e with ⟨_,e1,_⟩|⟨_,e1,_⟩|⟨e1,_⟩ <;> cases e1
 ·rcases ul h1 with ⟨_,e1,_⟩|⟨_,e1,_⟩|⟨e1,_⟩ <;> cases e1
 ·obtain⟨t1,t2⟩:=R.tt.1 r hr
  refine⟨?_,t2⟩
  unfold XB
  split
  ·rename_i h
   refine byc fun zG=>?_
   obtain⟨i,ds,h1,h2⟩:=h
   obtain⟨a,vs,q1,q2,q3,q4⟩:=R.own i ds h1
   refine zG ?_
   rw[h2] at q1;cases q1
   rw[q2] at t2
   rcases t2 with z|⟨_,z,_⟩ <;> cases z
  ·exact t1
 ·have nf:∀{a:Addr} {u:HO},H a=some u→F a=none→(∀(i:Nat) (ds:List D),τ[i]?=some (some (.own ds))→σ[i]?=some (some (.ref a))→False)→XB τ σ F H a=none:=fun {a u} h h3 n=>by
   unfold XB
   split
   ·rename_i h
    refine byc fun zG=>?_
    obtain⟨j,ds,g1,g2⟩:=h
    refine zG ?_
    exact(n j ds g1 g2).elim
   ·exact h3
  have o1:ObsOk K (XB τ σ F H) τ σ H:=R.ob.keep (jd R) (fun _ _ _ _ h=>h) (fun a C dx vs h h3=>nf h h3 fun i ds g1 g2=>by
    refine byc fun zG=>?_
    obtain⟨b,ws,q1,q2,q3,q4⟩:=R.own i ds g1
    refine zG ?_
    rw[g2] at q1;cases q1
    rw[q2] at h;cases h) (fun _ _ h=>h) fun i c a l ws h1 h2 h3 h4 h5=>⟨h4,nf h4 h5 fun j ds g1 g2=>R.ob.lo i j c ds a l h1 g1 h2 g2 h3⟩
  have bo:∀{i:Nat} {c:Str},ObS (Z4 τ)[i]? c→ObS τ[i]? c:=fun {i c} h=>by
   rcases h with ⟨n,fs,h⟩|⟨fs,h⟩
   ·exact .inl ⟨n,fs,wW rfl h⟩
   ·exact .inr ⟨fs,wW rfl h⟩
  exact⟨fun i n c fs h=>o1.at_ i n c fs (wW rfl h),fun i j n c c' fs a hij h1 h2=>o1.dis i j n c c' fs a hij (wW rfl h1) (bo h2),fun i c fs h=>o1.rd i c fs (wW rfl h),fun i j n c c' fs a a' l hij h1 h2=>o1.ll i j n c c' fs a a' l hij (wW rfl h1) (bo h2),fun i j c ds a l _ h2=>by
   rcases ul h2 with ⟨_,e1,_⟩|⟨_,e1,_⟩|⟨e1,_⟩ <;> cases e1⟩
theorem RS.frz(R:RS K B Z F τ σ H):RS K B Z (XB τ σ F H) (Z4 τ) σ H:=by
 refine⟨R.rv.frz,R.bh,R.zf.trans (jd R.rv),fun a o e=>?_,fun i ds a h1 _=>?_,fun i n c fs a h1 h2=>R.oo i n c fs a (wW rfl h1) h2,fun a0 dx b1 b2 i n c fs h=>R.sf a0 dx b1 b2 i n c fs (wW rfl h),fun i c fs a h1 h2=>R.ro i c fs a (wW rfl h1) h2⟩
 ·unfold XB at e
  split at e
  ·rename_i h
   refine byc fun zG=>?_
   obtain⟨i,ds,h1,h2⟩:=h
   refine zG ?_
   exact .inr (R.ob i ds a h1 h2)
  ·exact R.nb a o e
 ·rcases ul h1 with ⟨_,e1,_⟩|⟨_,e1,_⟩|⟨e1,_⟩ <;> cases e1
end
section
variable{X:Cx}{pos:Pos}{e tg:Expr}{st:Stmt}{ss:List Stmt}{fe:FE}{fs:FA}{f:FS}
theorem GF(h:vD X ss f):vD X ss (fun τ=>f (Z4 τ)):=PSs.imp h fun E σ H z_=>by obtain⟨B,Z,F,τ,R,q⟩:=z_;exact⟨B,Z,_,Z4 τ,R.frz,q.same (jd R.rv)⟩
noncomputable def scal:D→Bool
 |.non=>true
 |.bl _=>true
 |.int _=>true
 |.str _=>true
 |_=>false
end
open PySem.W
section
variable{X:Cx}{pins:List (Addr×Obj)}{σ:St}{F H:Hp}{τ:DS}{s:Shared}{Q:VK}{E:Value→Shared→Prop}
end
open PySem.W
structure Jh(K:Frag)(mg:Str→Option Value)(x:Str)(st:Stmt)(f c T:Addr):Prop where
 ex:∃(oc:Value) (od:Option Addr) (kV doc pm:Value) (an:Option Addr) (ct:Value) (osl:Array (Option Value)),K.lookup f=some ⟨oc,od,.func (fnOf x x (zE st) (zt st) (zi st) .none kV doc pm an (.ref c) ct),osl⟩
 cd:codeIn K (.ref c) x=true
 kp:keepIn K (.ref f)=true
 at_:mg x=some (.ref f)
 tab:codeHdIn K c T=true
section
variable{P:Program}{w:World}{K:Frag}{mg:Str→Option Value}{base:Heap}
theorem DefOk.mkL{x:Str}{st:Stmt}{f c T:Addr}{N ps:List Str}{k n:Nat}{fb:FS}(D:Jh K mg x st f c T)(S:zD N ps (zi st))(hn:ps.length=n)
  (hb:∀(kV doc pm:Value) (an:Option Addr) (cdv ct:Value) (us:List Value),us.length=ps.length→bindArgs (fnOf x x (zE st) (zt st) (zi st) .none kV doc pm an cdv ct) ⟨us,[]⟩=pure (ps.zip us))
  (hbody:∀(A:Around) (outer:List Env) (s:Shared) (H:Hp) (E:XK),Room k (A.deeper (envOfC x (zi st) s.heap.objs.size f (.ref c))) →
   vD (uS CX0 P w K mg base N x (zi st) f (.ref c) A outer s H E).nox (zt st) fb):DefOk P w K mg base x (k+1) n ps (wg N.length fb):=by
 refine byc fun zG=>?_
 obtain⟨oc,od,kV,doc,pm,an,ct,osl,lk⟩:=D.ex
 refine zG ?_
 refine⟨f,_,?_,.all (hb kV doc pm an (.ref c) ct),D.kp,D.at_⟩
 refine L6 lk D.cd S (fun vs H Q E h=>by rw[hn];exact h.1) fun A outer s H vs Q E hr h=>⟨_,(show PSs _ _ _ from hbody A outer s H E hr).nox,?_⟩
 refine byc fun zG=>?_
 obtain⟨hl,ds,Fz,fh,tt,r,h⟩:=h
 refine zG ?_
 refine⟨H,Fz,Fz,yc N.length ds,VT fh tt r,?_⟩
 unfold wg at h
 cases q:fb (yc N.length ds) with
 |nx τ=>rw[q] at h;exact fun σ F' H' ff RR=>h .non F' H' RR.out (by simp only[Rep])
 |rt d=>rw[q] at h;exact fun v F' H' x rr=>h v F' H' x rr
 |ro d τ=>rw[q] at h;exact fun v σ F' H' ff RR rr=>h v F' H' RR.out rr
 |rb d τ=>rw[q] at h;exact h.elim
 |bk τ=>rw[q] at h;exact h.elim
 |ct τ=>rw[q] at h;exact h.elim
 |ex c=>rw[q] at h;exact h.elim
 |no=>rw[q] at h;exact h.elim
 |rs c τ=>rw[q] at h;exact h.elim
end
section
variable{X:Cx}{pos:Pos}{e a b:Expr}{es:List Expr}{fe fa fb:FE}{fs:FA}
end
noncomputable abbrev Fs:=List (Str×D)
noncomputable def xQ(f:Str)(d:D):Fs→Fs
 |[]=>[(f,d)]
 | (g,x)::r=>if g=f then (g,d)::r else (g,x)::xQ f d r
noncomputable def yR(f:Str):Fs→Option D
 |[]=>none
 | (g,x)::r=>if f=g then some x else yR f r
theorem Flds.look{K:Frag}{F H:Hp}{c f:Str}:∀{fs:Fs} {vs:List (Str×V)},Flds K F H c fs vs→match yR f fs with
  |some d=>∃v,vs.lookup f=some v∧ZK K F H c f d v
  |none=>vs.lookup f=none
 |[],[],_=>rfl
 | (g,d)::r,(g',v)::s,q=>by
  obtain⟨rfl,q2,q3⟩:=q
  have ih:=Flds.look (f:=f) q3
  unfold yR
  by_cases h:f=g
  ·have hb:(f==g)=true:=beq_iff_eq.mpr h
   rw[if_pos h]
   subst h
   exact⟨v,by simp only[List.lookup,hb],q2⟩
  ·have hb:(f==g)=false:=beq_eq_false_iff_ne.mpr h
   rw[if_neg h]
   have e:List.lookup f ((g,v)::s)=List.lookup f s:=by simp only[List.lookup,hb]
   rw[e];exact ih
 |[],_::_,q=>q.elim
 |_::_,[],q=>q.elim
theorem Flds.length{K:Frag}{F H:Hp}{c:Str}:∀{fs:Fs} {vs:List (Str×V)},Flds K F H c fs vs→fs.length=vs.length
 |[],[],_=>rfl
 |_::r,_::s,q=>by rw[length_cons,length_cons,Flds.length q.2.2]
 |[],_::_,q=>q.elim
 |_::_,[],q=>q.elim
theorem Flds.put{K:Frag}{F H:Hp}{c f:Str}{d:D}{v:V}(r:ZK K F H c f d v):∀{fs:Fs} {vs:List (Str×V)},Flds K F H c fs vs→Flds K F H c (xQ f d fs) (wz f v vs)
 |[],[],_=>⟨rfl,r,trivial⟩
 | (g,x)::t,(g',y)::s,q=>by
  obtain⟨rfl,q2,q3⟩:=q
  have ih:=Flds.put (f:=f) r q3
  unfold xQ wz
  by_cases h:g=f
  ·rw[if_pos h,if_pos h];subst h;exact⟨rfl,r,q3⟩
  ·rw[if_neg h,if_neg h];exact⟨rfl,q2,ih⟩
 |[],_::_,q=>q.elim
 |_::_,[],q=>q.elim
theorem ownL_cons{c f:Str}{v:V}{r:List (Str×V)}{l:Addr}:l∈yM c ((f,v)::r)↔(Tabs.own c f=true∧v=.ref l)∨l∈yM c r:=by
 show l∈(if Tabs.own c f=true then (match v with
  |.ref l=>l::yM c r
  |_=>yM c r) else yM c r)↔_
 by_cases z:Tabs.own c f=true
 ·rw[if_pos z]
  cases v <;> simp[z]
  rename_i a
  constructor
  ·rintro (h|h)
   ·exact .inl h.symm
   ·exact .inr h
  ·rintro (h|h)
   ·exact .inl h.symm
   ·exact .inr h
 ·rw[if_neg z];simp[z]
theorem ZU{c f:Str}{v:V}(h:Tabs.own c f=false):∀vs:List (Str×V),yM c (wz f v vs)=yM c vs:=by
 intro l_
 induction l_ with
 |nil=>
  show(if Tabs.own c f=true then _ else ([]:List Addr))=[];rw[if_neg (by rw[h];simp)]
 |cons p_ r ih_=>
  obtain⟨g,x⟩:=p_
  rw[show wz f v ((g,x)::r)=(if g=f then (g,v)::r else (g,x)::wz f v r) from rfl]
  by_cases z:g=f
  ·subst z
   rw[if_pos rfl]
   show(if Tabs.own c g=true then _ else yM c r)=(if Tabs.own c g=true then _ else yM c r)
   rw[if_neg (by rw[h];simp),if_neg (by rw[h];simp)]
  ·rw[if_neg z]
   have ih:=ih_
   unfold yM
   rw[ih]
theorem Xa{c f:Str}{l p:Addr}:∀{vs:List (Str×V)},l∈yM c (wz f (.ref p) vs)→l=p∨l∈yM c vs
 |[],h=>by
  rcases ownL_cons.mp h with ⟨_,z⟩|z
  ·cases z;exact .inl rfl
  ·cases z
 | (g,x)::r,h=>by
  rw[show wz f (.ref p) ((g,x)::r)=(if g=f then (g,.ref p)::r else (g,x)::wz f (.ref p) r) from rfl] at h
  by_cases z:g=f
  ·rw[if_pos z] at h
   rcases ownL_cons.mp h with ⟨_,e⟩|e
   ·cases e;exact .inl rfl
   ·exact .inr (ownL_cons.mpr (.inr e))
  ·rw[if_neg z] at h
   rcases ownL_cons.mp h with e|e
   ·exact .inr (ownL_cons.mpr (.inl e))
   ·rcases Xa e with e|e
    ·exact .inl e
    ·exact .inr (ownL_cons.mpr (.inr e))
theorem ownL_nd{c f:Str}{v:V}{r:List (Str×V)}:(yM c ((f,v)::r)).Nodup↔(∀l,Tabs.own c f=true→v=.ref l→l∉yM c r)∧(yM c r).Nodup:=by
 show(if Tabs.own c f=true then (match v with
  |.ref l=>l::yM c r
  |_=>yM c r) else yM c r).Nodup↔_
 by_cases z:Tabs.own c f=true
 ·rw[if_pos z]
  cases v <;> simp[z]
 ·rw[if_neg z];simp[z]
theorem Ya{c f:Str}{p:Addr}:∀{vs:List (Str×V)},(yM c vs).Nodup→p∉yM c vs→(yM c (wz f (.ref p) vs)).Nodup
 |[],_,_=>ownL_nd.mpr ⟨fun _ _ _ h=>(by cases h),(show([]:List Addr).Nodup from List.nodup_nil)⟩
 | (g,x)::r,h,hp=>by
  rw[show wz f (.ref p) ((g,x)::r)=(if g=f then (g,.ref p)::r else (g,x)::wz f (.ref p) r) from rfl]
  obtain⟨h1,h2⟩:=ownL_nd.mp h
  have hp2:p∉yM c r:=fun z=>hp (ownL_cons.mpr (.inr z))
  by_cases z:g=f
  ·rw[if_pos z]
   exact ownL_nd.mpr ⟨fun l _ e=>by cases e;exact hp2,h2⟩
  ·rw[if_neg z]
   refine ownL_nd.mpr ⟨fun l e1 e2 hm=>?_,Ya h2 hp2⟩
   rcases Xa hm with e|e
   ·subst e;exact hp (ownL_cons.mpr (.inl ⟨e1,e2⟩))
   ·exact h1 l e1 e2 e
theorem vF{c f:Str}{l:Addr}(ho:Tabs.own c f=true):∀{s:List (Str×V)},s.lookup f=some (.ref l)→l∈yM c s
 |[],z=>by cases z
 | (g,w)::s,z=>by
  by_cases h:f=g
  ·subst h
   have:w=.ref l:=by simpa[List.lookup] using z
   exact ownL_cons.mpr (.inl ⟨ho,this⟩)
  ·have hb:(f==g)=false:=beq_eq_false_iff_ne.mpr h
   exact ownL_cons.mpr (.inr (vF ho (by simpa[List.lookup,hb] using z)))
theorem Flds.updL{K:Frag}{F H:Hp}{c f:Str}{l:Addr}{ds:List D}{ws:List V}(ho:Tabs.own c f=true)(r:Reps K F ds ws):∀{fs:Fs} {vs:List (Str×V)},Flds K F H c fs vs→(yM c vs).Nodup→vs.lookup f=some (.ref l)→Flds K F (upd H l (.lst ws)) c (xQ f (.lst ds) fs) vs
 |[],[],_,_,e=>by cases e
 | (g,x)::t,(g',y)::s,q,nd,e=>by
  refine byc fun zG=>?_
  obtain⟨rfl,q2,q3⟩:=q
  obtain⟨n1,n2⟩:=ownL_nd.mp nd
  refine zG ?_
  unfold xQ
  by_cases h:g=f
  ·subst h
   rw[if_pos rfl]
   have:y=.ref l:=by simpa[List.lookup] using e
   subst this
   unfold ZK at q2
   rw[if_pos ho] at q2
   refine byc fun zG=>?_
   obtain⟨ds0,l',ws0,e1,e2,e3,e4,e5⟩:=q2
   refine zG ?_
   cases e2
   refine⟨rfl,?_,q3.keep (Same.refl F) fun l2 ws2 hl e6 e7=>⟨?_,e7⟩⟩
   ·unfold ZK;rw[if_pos ho];exact⟨ds,l,ws,rfl,rfl,zB,e4,r⟩
   ·have:l2≠l:=fun z=>by subst z;exact n1 l2 ho rfl hl
    rw[zr this];exact e6
  ·rw[if_neg h]
   have hb:(f==g)=false:=beq_eq_false_iff_ne.mpr fun z=>h z.symm
   have e':s.lookup f=some (.ref l):=by simpa[List.lookup,hb] using e
   refine⟨rfl,?_,Flds.updL ho r q3 n2 e'⟩
   have hin:l∈yM c s:=vF ho e'
   unfold ZK at q2 ⊢
   by_cases z:Tabs.own c g=true
   ·rw[if_pos z] at q2 ⊢
    refine byc fun zG=>?_
    obtain⟨ds0,l',ws0,e1,e2,e3,e4,e5⟩:=q2
    refine zG ?_
    have:l'≠l:=fun y=>by subst y;exact n1 l' z e2 hin
    exact⟨ds0,l',ws0,e1,e2,by rw[zr this];exact e3,e4,e5⟩
   ·rw[if_neg z] at q2 ⊢;exact q2
 |[],_::_,q,_,_=>q.elim
 |_::_,[],q,_,_=>q.elim
noncomputable def jG(τ:DS)(i:Nat)(c:Str):Rs Fs:=match τ[i]? with
 | some (some (.obj _ c' fs))=>if c'=c then .ok fs else .no
 | some (some (.obr c' fs))=>if c'=c then .ok fs else .no
 |_=>.no
noncomputable def uw(τ:DS)(i:Nat)(c:Str):Rs (Nat×Fs):=match τ[i]? with
 | some (some (.obj n c' fs))=>if c'=c then .ok (n,fs) else .no
 |_=>.no
theorem ju{X:Cx}{τ:DS}{i:Nat}{c:Str}{P:Nat×Fs→Prop}(h:Ok X (uw τ i c) P):∃n fs,τ[i]?=some (some (.obj n c fs))∧P (n,fs):=by
 unfold uw at h
 split at h
 ·rename_i n c' fs e
  by_cases z:c'=c
  ·subst z;rw[if_pos rfl] at h;exact⟨n,fs,e,h⟩
  ·rw[if_neg z] at h;exact h.elim
 ·exact h.elim
theorem Zw{X:Cx}{F H:Hp}{τ:DS}{σ:St}{i:Nat}{c:Str}{P:Fs→Prop}(R:RV X.K F τ σ H)(h:Ok X (jG τ i c) P) :
  ∃fs a C dx vs,σ[i]?=some (some (.ref a))∧H a=some (.ins C dx vs)∧nsIn X.K mainGlobals c=some (some (.ref C))∧Flds X.K F H c fs vs∧P fs:=by
 unfold jG at h
 split at h
 ·rename_i n c' fs e
  by_cases z:c'=c
  ·subst z;rw[if_pos rfl] at h
   refine byc fun zG=>?_
   obtain⟨a,h1,C,dx,vs,h2,h3,h4,h5,_⟩:=R.ob.at_ i n c' fs e
   refine zG ?_
   exact⟨fs,a,C,dx,vs,h1,h2,h4,h5,h⟩
  ·rw[if_neg z] at h;exact h.elim
 ·rename_i c' fs e
  by_cases z:c'=c
  ·subst z;rw[if_pos rfl] at h
   refine byc fun zG=>?_
   obtain⟨a,C,dx,vs,h1,h2,h4,h5⟩:=R.ob.rd i c' fs e
   refine zG ?_
   exact⟨fs,a,C,dx,vs,h1,h2,h4,h5,h⟩
  ·rw[if_neg z] at h;exact h.elim
 ·exact h.elim
noncomputable def eAt(i:Nat)(c f:Str):FE:=fun τ=>(jG τ i c).bind fun fs=>match yR f fs with
 |some d=>.ok d
 |none=>.no
section
variable{X:Cx}{pos:Pos}{e:Expr}{es:List Expr}{fe:FE}{fs:FA}{C:Addr}{c f x:Str}{i:Nat}
theorem W3{p1:Pos}(hx:PE X (.Name x p1) (wN i))(hC:nsIn X.K mainGlobals c=some (some (.ref C)))(cl:Cls X.K C)(na:NoAttr X.K C f)(ho:Tabs.own c f=false:=by rfl)
  (hb:attributeBase (.Name x p1) f X.env (eval (.Name x p1) X.env)=eval (.Name x p1) X.env:=by rfl):PDE X (.Attribute (.Name x p1) f pos) (eAt i c f):=
 PE.imp (GC hx hb) fun σ H Q z_=>by
  refine byc fun zG=>?_
  obtain⟨F,τ,R,h⟩:=z_
  obtain⟨fs,a,C',dx,vs,h1,h2,h3,h4,h5⟩:=Zw R h.bind
  refine zG ?_
  rw[hC] at h3
  obtain rfl:C=C':=by cases h3;rfl
  have l:=h4.look (f:=f)
  cases q:yR f fs with
  |none=>rw[q] at h5;exact h5.elim
  |some d=>
   rw[q] at h5 l
   obtain⟨v,l1,l2⟩:=l
   unfold ZK at l2
   rw[if_neg (by rw[ho];simp)] at l2
   exact⟨_,h1,a,C,dx,vs,v,rfl,h2,cl,na,l1,h5 v F H (Ext.refl R.fh) l2⟩
end
omit [Tabs] in
theorem Mt{o:HO}{r r':Option HO}(a:Kp o r)(b:∀u:HO,r=Option.some u→Kp u r'):Kp o r':=by
 cases o <;> first|exact b _ a | (obtain⟨ps,q⟩:=a;have h2:=b (HO.tbl ps) q;exact h2)
theorem RV.objset{K:Frag}{F F' H H':Hp}{τ:DS}{σ:St}{i n:Nat}{c:Str}{fs fs':Fs}{a C dx:Addr}{vs:List (Str×V)}(R:RV K F τ σ H)(hi:τ[i]?=some (some (.obj n c fs)))(ha:σ[i]?=some (some (.ref a)))(he:H a=some (.ins C dx vs))
  (ff:Same F F') (fh:Same F' H') (tt:TbT F' H') (kp:∀b u,b≠a→b∉yM c vs→H b=some u→Kp u (H' b)) (nwF:∀b o,F' b=some o→F b=some o∨H b=none∨b=a∨b∈yM c vs)
  (ob:We K F' H' c fs' a) (nw:∀l∈Lof H' c a,l∈yM c vs∨H l=none):RV K F' (τ.set i (some (.obj n c fs'))) σ H':=by
 have hl:i<τ.length:=(List.getElem?_eq_some_iff.mp hi).1
 have hfl:Flds K F H c fs vs:=by
  refine byc fun zG=>?_
  obtain⟨a',q1,C',dx',vs',q2,_,_,q5,_⟩:=R.ob.at_ i n c fs hi
  refine zG ?_
  rw[ha] at q1;cases q1
  rw[he] at q2;cases q2;exact q5
 have nl:∀{b:Addr} {u:HO},H b=some u→(∀ws,u≠.lst ws)→b∉yM c vs:=fun {b u} e m z=>by
  obtain⟨_,ws,q⟩:=hfl.own z
  rw[e] at q;cases q;exact m _ rfl
 have na:∀{b:Addr} {u:HO},H b=some u→(∀C dx vs,u≠.ins C dx vs)→b≠a:=fun {b u} e m z=>by
  subst z;rw[he] at e;cases e;exact m _ _ _ rfl
 have nf:∀{b:Addr} {u:HO},b≠a→b∉yM c vs→H b=some u→F b=none→F' b=none:=fun {b u} h1 h2 e h3=>by
  cases q:F' b with
  |none=>rfl
  |some w=>
   rcases nwF b w q with z|z|z|z
   ·rw[h3] at z;cases z
   ·rw[e] at z;cases z
   ·exact absurd z h1
   ·exact absurd z h2
 have bk:∀{j:Nat} {s:Option Sl},(∀m c1 g,s≠some (.obj m c1 g))→(τ.set i (some (.obj n c fs')))[j]?=some s→i≠j∧τ[j]?=some s:=fun {j s} m h=>by
  by_cases e:i=j
  ·subst e;rw[getElem?_set_self hl] at h;cases h;exact absurd rfl (m _ _ _)
  ·rw[getElem?_set_ne e] at h;exact⟨e,h⟩
 have bs:∀{j:Nat} {c1:Str},i≠j→ObS (τ.set i (some (.obj n c fs')))[j]? c1→ObS τ[j]? c1:=fun {j c1} e h=>by
  rw[getElem?_set_ne e] at h;exact h
 have oth:∀{j:Nat} {c1:Str} {a':Addr},i≠j→ObS τ[j]? c1→σ[j]?=some (some (.ref a'))→a'≠a∧Lof H' c1 a'=Lof H c1 a'∧∀l∈Lof H c1 a',l≠a∧l∉yM c vs:=fun {j c1 a'} e h ea=>by
  have n1:a'≠a:=fun z=>by subst z;exact R.ob.dis i j n c c1 fs a' e hi h ha ea
  refine byc fun zG=>?_
  obtain⟨a2,C',dx',vs',gs,h1,h2,h3⟩:=R.ob.get h
  refine zG ?_
  rw[ea] at h1;cases h1
  refine⟨n1,?_,fun l hl2=>⟨fun z=>?_,fun z=>?_⟩⟩
  ·rw[Lof.ins h2,Lof.ins (show H' a'=some (.ins C' dx' vs') from kp a' _ n1 (nl h2 fun _ z=>nomatch z) h2)]
  ·subst z
   rw[Lof.ins h2] at hl2
   obtain⟨_,ws,q⟩:=h3.own hl2
   rw[he] at q;cases q
  ·exact R.ob.ll i j n c c1 fs a a' l e hi h ha ea (by rw[Lof.ins he];exact z) hl2
 refine⟨fh,by simp[R.len],fun j d h=>?_,fun j ds h=>?_,fun j k ds es b hjk h1 h2 h3 h4=>R.dis j k ds es b hjk (bk (fun _ _ _ z=>by cases z) h1).2 (bk (fun _ _ _ z=>by cases z) h2).2 h3 h4,tt,⟨fun j m c1 g h=>?_,fun j k m c1 c2 g1 b hjk h1 h2 h3 h4=>?_,fun j c1 g h=>?_,fun j k m c1 c2 g1 b b' l hjk h1 h2 h3 h4 h5 h6=>?_,fun j k c1 ds b l h1 h2 h3 h4 h5=>?_⟩⟩
 ·obtain⟨v,h1,h2⟩:=R.val j d (bk (fun _ _ _ z=>by cases z) h).2
  exact⟨v,h1,h2.mono ff⟩
 ·have h:=(bk (fun _ _ _ z=>by cases z) h).2
  refine byc fun zG=>?_
  obtain⟨b,ws,q1,q2,q3,q4⟩:=R.own j ds h
  refine zG ?_
  have n1:=na q2 fun _ _ _ z=>nomatch z
  have n2:b∉yM c vs:=fun z=>R.ob.lo i j c ds a b (.inl ⟨n,fs,hi⟩) h ha q1 (by rw[Lof.ins he];exact z)
  exact⟨b,ws,q1,kp b _ n1 n2 q2,nf n1 n2 q2 q3,q4.mono ff⟩
 ·by_cases e:i=j
  ·subst e;rw[getElem?_set_self hl] at h;cases h;exact⟨a,ha,ob⟩
  ·rw[getElem?_set_ne e] at h
   refine byc fun zG=>?_
   obtain⟨a',q1,C',dx',vs',q2,q3,q4,q5,q6,q7⟩:=R.ob.at_ j m c1 g h
   obtain⟨n1,_,n3⟩:=oth e (.inl ⟨m,g,h⟩) q1
   refine zG ?_
   have n2:=nl q2 fun _ z=>nomatch z
   refine⟨a',q1,C',dx',vs',kp a' _ n1 n2 q2,nf n1 n2 q2 q3,q4,q5.keep ff fun l ws hl2 e3 e4=>?_,kp dx' _ (na q6 fun _ _ _ z=>nomatch z) (nl q6 fun _ z=>nomatch z) q6,q7⟩
   obtain⟨m1,m2⟩:=n3 l (by rw[Lof.ins q2];exact hl2)
   exact⟨kp l _ m1 m2 e3,nf m1 m2 e3 e4⟩
 ·by_cases e1:i=j
  ·subst e1
   have h2:=bs hjk h2
   exact R.ob.dis i k n c c2 fs b hjk hi h2 h3 h4
  ·rw[getElem?_set_ne e1] at h1
   by_cases e2:i=k
   ·subst e2
    have:b=a:=by rw[ha] at h4;cases h4;rfl
    subst this
    exact(oth e1 (.inl ⟨m,g1,h1⟩) h3).1 rfl
   ·exact R.ob.dis j k m c1 c2 g1 b hjk h1 (bs e2 h2) h3 h4
 ·refine byc fun zG=>?_
  obtain⟨e,h⟩:=bk (fun _ _ _ z=>by cases z) h
  obtain⟨a',C',dx',vs',q1,q2,q4,q5⟩:=R.ob.rd j c1 g h
  obtain⟨n1,_,n3⟩:=oth e (.inr ⟨g,h⟩) q1
  refine zG ?_
  refine⟨a',C',dx',vs',q1,kp a' _ n1 (nl q2 fun _ z=>nomatch z) q2,q4,q5.keep ff fun l ws hl2 e3 e4=>?_⟩
  obtain⟨m1,m2⟩:=n3 l (by rw[Lof.ins q2];exact hl2)
  exact⟨kp l _ m1 m2 e3,nf m1 m2 e3 e4⟩
 ·-- own lists of two
  have self:∀{k:Nat} {c2:Str} {b':Addr},i≠k→ObS τ[k]? c2→σ[k]?=some (some (.ref b'))→l∈Lof H' c a→l∈Lof H c2 b'→False:=fun {k c2 b'} e h eb m1 m2=>by
   rcases nw l m1 with z|z
   ·exact((oth e h eb).2.2 l m2).2 z
   ·refine byc fun zG=>?_
    obtain⟨a2,C',dx',vs',gs,g1,g2,g3⟩:=R.ob.get h
    refine zG ?_
    rw[eb] at g1;cases g1
    rw[Lof.ins g2] at m2
    obtain⟨_,ws,q⟩:=g3.own m2
    rw[z] at q;cases q
  by_cases e1:i=j
  ·subst e1
   rw[getElem?_set_self hl] at h1
   have ec:c=c1:=by cases h1;rfl
   subst ec
   have:b=a:=by rw[ha] at h3;cases h3;rfl
   subst this
   have h2:=bs hjk h2
   rw[(oth hjk h2 h4).2.1] at h6
   exact self hjk h2 h4 h5 h6
  ·rw[getElem?_set_ne e1] at h1
   rw[(oth e1 (.inl ⟨m,g1,h1⟩) h3).2.1] at h5
   by_cases e2:i=k
   ·subst e2
    have ec:c=c2:=by
     rw[getElem?_set_self hl] at h2
     rcases h2 with ⟨_,_,h2⟩|⟨_,h2⟩
     ·cases h2;rfl
     ·cases h2
    subst ec
    have:b'=a:=by rw[ha] at h4;cases h4;rfl
    subst this
    exact self e1 (.inl ⟨m,g1,h1⟩) h3 h6 h5
   ·have h2:=bs e2 h2
    rw[(oth e2 h2 h4).2.1] at h6
    exact R.ob.ll j k m c1 c2 g1 b b' l hjk h1 h2 h3 h4 h5 h6
 ·have h2:=(bk (fun _ _ _ z=>by cases z) h2).2
  by_cases e1:i=j
  ·subst e1
   have ec:c=c1:=by
    rw[getElem?_set_self hl] at h1
    rcases h1 with ⟨_,_,h1⟩|⟨_,h1⟩
    ·cases h1;rfl
    ·cases h1
   subst ec
   have:b=a:=by rw[ha] at h3;cases h3;rfl
   subst this
   rcases nw l h5 with z|z
   ·exact R.ob.lo i k c ds b l (.inl ⟨n,fs,hi⟩) h2 ha h4 (by rw[Lof.ins he];exact z)
   ·refine byc fun zG=>?_
    obtain⟨p,ws,q1,q2,_⟩:=R.own k ds h2
    refine zG ?_
    rw[h4] at q1;cases q1
    rw[z] at q2;cases q2
  ·have h1:=bs e1 h1
   rw[(oth e1 h1 h3).2.1] at h5
   exact R.ob.lo j k c1 ds b l h1 h2 h3 h4 h5
theorem RS.objset{K:Frag}{B Z F F' H H':Hp}{τ:DS}{σ:St}{i n:Nat}{c:Str}{fs fs':Fs}{a C dx:Addr}{vs:List (Str×V)}(R:RS K B Z F τ σ H)(hi:τ[i]?=some (some (.obj n c fs)))(ha:σ[i]?=some (some (.ref a)))(he:H a=some (.ins C dx vs))
  (ff:Same F F') (fh:Same F' H') (tt:TbT F' H') (kp:∀b u,b≠a→b∉yM c vs→H b=some u→Kp u (H' b)) (nwF:∀b o,F' b=some o→F b=some o∨H b=none∨b=a∨b∈yM c vs)
  (ob:We K F' H' c fs' a) (nw:∀l∈Lof H' c a,l∈yM c vs∨H l=none):RS K B Z F' (τ.set i (some (.obj n c fs'))) σ H':=by
 have hl:i<τ.length:=(List.getElem?_eq_some_iff.mp hi).1
 obtain⟨hB,hBl⟩:=R.oo i n c fs a hi ha
 rw[Lof.ins he] at hBl
 have rv:=R.rv.objset hi ha he ff fh tt kp nwF ob nw
 refine⟨rv,fun b o e=>?_,R.zf.trans ff,fun b o e=>?_,fun j ds b h1 h2=>?_,fun j m c1 g b h1 h2=>?_,fun a0 d0 b1 b2 j m c1 g h=>?_,fun j c1 g b h1 h2=>?_⟩
 ·have n1:b≠a:=fun z=>by subst z;rw[hB] at e;cases e
  have n2:b∉yM c vs:=fun z=>by rw[hBl b z] at e;cases e
  exact Mt (R.bh b o e) fun u hu=>kp b u n1 n2 hu
 ·rcases nwF b o e with z|z|z|z
  ·exact R.nb b o z
  ·exact .inr (xJ R.bh z)
  ·exact .inr (by rw[z];exact hB)
  ·exact .inr (hBl b z)
 ·by_cases e:i=j
  ·subst e;rw[getElem?_set_self hl] at h1;cases h1
  ·rw[getElem?_set_ne e] at h1;exact R.ob j ds b h1 h2
 ·by_cases e:i=j
  ·subst e
   rw[getElem?_set_self hl] at h1
   have ec:c=c1:=by cases h1;rfl
   subst ec
   have:b=a:=by rw[ha] at h2;cases h2;rfl
   subst this
   refine⟨hB,fun l hl=>?_⟩
   rcases nw l hl with z|z
   ·exact hBl l z
   ·exact xJ R.bh z
  ·rw[getElem?_set_ne e] at h1
   obtain⟨q1,q2⟩:=R.oo j m c1 g b h1 h2
   refine⟨q1,fun l hl=>q2 l ?_⟩
   refine byc fun zG=>?_
   obtain⟨a',p1,C',dx',vs',p2,_⟩:=R.rv.ob.at_ j m c1 g h1
   refine zG ?_
   rw[h2] at p1;cases p1
   have n1:b≠a:=fun z=>by subst z;exact R.rv.ob.dis i j n c c1 fs b e hi (.inl ⟨m,g,h1⟩) ha h2
   have n2:b∉yM c vs:=fun z=>by
    refine byc fun zG=>?_
    obtain⟨a2,p1,C2,dx2,vs2,p3,_,_,p5,_⟩:=R.rv.ob.at_ i n c fs hi
    refine zG ?_
    rw[ha] at p1;cases p1
    rw[he] at p3;cases p3
    obtain⟨_,ws,q⟩:=p5.own z
    rw[p2] at q;cases q
   rw[Lof.ins p2]
   rw[Lof.ins (show H' b=some (.ins C' dx' vs') from kp b _ n1 n2 p2)] at hl
   exact hl
 ·by_cases e:i=j
  ·subst e
   rw[getElem?_set_self hl] at h
   have em:n=m+1:=by cases h;rfl
   subst em
   exact R.sf a0 d0 b1 b2 i m c fs hi
  ·rw[getElem?_set_ne e] at h;exact R.sf a0 d0 b1 b2 j m c1 g h
 ·by_cases e:i=j
  ·subst e;rw[getElem?_set_self hl] at h1;cases h1
  ·rw[getElem?_set_ne e] at h1;exact R.ro j c1 g b h1 h2
omit [Tabs] in
theorem TOk.stepI{F H H':Hp}{r:Addr×Nat×Nat×Str}(t:TOk F H r)(k:∀a o,H a=some o→(∀C dx vs,o≠.ins C dx vs)→H' a=some o):TOk F H' r:=by
 refine⟨t.1,?_⟩
 rcases t.2 with e|⟨c,e,e2⟩
 ·exact .inl (k _ _ e fun _ _ _ z=>nomatch z)
 ·exact .inr ⟨c,k _ _ e (fun _ _ _ z=>nomatch z),k _ _ e2 fun _ _ _ z=>nomatch z⟩
theorem TbT.ins{F H:Hp}{a C dx:Addr}{vs vs':List (Str×V)}(t:TbT F H)(he:H a=some (.ins C dx vs)):TbT F (L2.upd H a (.ins C dx vs')):=
 ⟨fun r hr=>(t.1 r hr).stepI fun b o e n=>by
  have:b≠a:=fun z=>by subst z;rw[he] at e;cases e;exact n _ _ _ rfl
  rw[zr this];exact e,fun d b e=>by
  have e:=ux (fun _ z=>by cases z) d b e
  refine byc fun zG=>?_
  obtain⟨C',dx',vs'',h⟩:=t.2 d b e
  refine zG ?_
  by_cases z:b=a
  ·subst z;exact⟨C,dx,vs',zB⟩
  ·exact⟨C',dx',vs'',by rw[zr z];exact h⟩⟩
theorem RS.attV{K:Frag}{B Z F H:Hp}{τ:DS}{σ:St}{i n:Nat}{c f:Str}{fs:Fs}{a C dx:Addr}{vs:List (Str×V)}{d:D}{v:V}(R:RS K B Z F τ σ H)(hi:τ[i]?=some (some (.obj n c fs)))(ha:σ[i]?=some (some (.ref a)))(he:H a=some (.ins C dx vs))(ho:Tabs.own c f=false)(r:Rep K F d v) :
  RS K B Z F (τ.set i (some (.obj n c (xQ f d fs)))) σ (L2.upd H a (.ins C dx (wz f v vs))):=by
 refine byc fun zG=>?_
 obtain⟨a',q1,C',dx',vs',q2,q3,q4,q5,q6,q7⟩:=R.rv.ob.at_ i n c fs hi
 refine zG ?_
 rw[ha] at q1;cases q1
 rw[he] at q2;cases q2
 have hd:dx≠a:=fun z=>by subst z;rw[he] at q6;cases q6
 have hL:Lof (L2.upd H a (.ins C dx (wz f v vs))) c a=yM c vs:=by rw[Lof.ins zB,ZU ho]
 refine R.objset hi ha he (Same.refl F) (fun b o e=>?_) (R.rv.tt.ins he) (fun b u h1 _ e=>.of (by rw[zr h1];exact e)) (fun b o e=>.inl e) ⟨C,dx,wz f v vs,zB,q3,q4,?_,by rw[zr hd];exact q6,by rw[ZU ho];exact q7⟩ fun l hl=>.inl (by rw[hL] at hl;exact hl)
 ·have:b≠a:=fun z=>by subst z;rw[q3] at e;cases e
  rw[zr this];exact R.rv.fh b o e
 ·refine(q5.put (f:=f) (d:=d) (v:=v) (by unfold ZK;rw[if_neg (by rw[ho];simp)];exact r)).keep (Same.refl F) fun l ws hl e1 e2=>⟨?_,e2⟩
  have:l≠a:=fun z=>by subst z;rw[he] at e1;cases e1
  rw[zr this];exact e1
noncomputable def sAt(i:Nat)(c f:Str)(fe:FE):FS:=fun τ=>Fl.of (fe τ) fun d=>Fl.of (uw τ i c) fun p=>if p.2.length<1000 then .nx (τ.set i (some (.obj p.1 c (xQ f d p.2)))) else .no
section
variable{X:Cx}{pos:Pos}{e:Expr}{es:List Expr}{fe:FE}{fs:FA}{C:Addr}{c f x:Str}{i:Nat}
theorem zc7{p1 pos':Pos}(hx:PE X (.Name x p1) (wN i))(hC:nsIn X.K mainGlobals c=some (some (.ref C)))(cl:Cls X.K C)(na:NoAttr X.K C f)(he:PDE X e fe)(ho:Tabs.own c f=false:=by rfl)
  (hs:swapsWith e (some (.Attribute (.Name x p1) f pos')) pos.line X.env=pure false:=by rfl):PDS X (.Assign [.Attribute (.Name x p1) f pos'] e pos) (sAt i c f fe):=
 PS.imp (Gw hx he hs) fun E σ H z_=>by
  refine byc fun zG=>?_
  obtain⟨B,Z,F,τ,R,h⟩:=z_
  refine zG ?_
  refine tE.at R h.of fun d v F1 H1 g x R1 r=>?_
  refine byc fun zG=>?_
  obtain⟨n,fs,h1,h2⟩:=ju (X:=X) (Post.of g)
  obtain⟨a,q1,C',dx,vs,q2,q3,q4,q5,q6⟩:=R1.rv.ob.at_ i n c fs h1
  refine zG ?_
  rw[hC] at q4
  obtain rfl:C=C':=by cases q4;rfl
  by_cases z:fs.length<1000
  ·dsimp only at h2
   rw[if_pos z] at h2
   exact⟨_,q1,a,C,dx,vs,rfl,q2,cl,na,by rw[← q5.length];exact z,h2 σ F1 _ x.ff (R1.attV h1 q1 q2 ho r)⟩
  ·dsimp only at h2
   rw[if_neg z] at h2;exact h2.elim
end
theorem RS.attN{K:Frag}{B Z F H:Hp}{τ:DS}{σ:St}{i n:Nat}{c f:Str}{fs:Fs}{a C dx p:Addr}{vs:List (Str×V)}{ds:List D}{ws:List V}(R:RS K B Z F τ σ H)(hi:τ[i]?=some (some (.obj n c fs)))(ha:σ[i]?=some (some (.ref a)))(he:H a=some (.ins C dx vs))(ho:Tabs.own c f=true)(hp:H p=none)(r:Reps K F ds ws) :
  RS K B Z F (τ.set i (some (.obj n c (xQ f (.lst ds) fs)))) σ (L2.upd (L2.upd H p (.lst ws)) a (.ins C dx (wz f (.ref p) vs))):=by
 refine byc fun zG=>?_
 obtain⟨a',q1,C',dx',vs',q2,q3,q4,q5,q6,q7⟩:=R.rv.ob.at_ i n c fs hi
 refine zG ?_
 rw[ha] at q1;cases q1
 rw[he] at q2;cases q2
 have hpa:p≠a:=fun z=>by subst z;rw[he] at hp;cases hp
 have hd:dx≠a:=fun z=>by subst z;rw[he] at q6;cases q6
 have hdp:dx≠p:=zR q6 hp
 have hFp:=zX R.rv.fh hp
 have hpl:p∉yM c vs:=fun z=>by
  obtain⟨_,ws',q⟩:=q5.own z
  rw[hp] at q;cases q
 have he':L2.upd H p (.lst ws) a=some (.ins C dx vs):=by rw[zr (Ne.symm hpa)];exact he
 have kpp:∀{b:Addr} {u:HO},b≠a→H b=some u→L2.upd (L2.upd H p (.lst ws)) a (.ins C dx (wz f (.ref p) vs)) b=some u:=fun {b u} h1 e=>by rw[zr h1,zr (zR e hp)];exact e
 have t1:TbT F (L2.upd H p (.lst ws)):=R.rv.tt.step (fun _ _ e=>.inl e) (fun b o e _=>by rw[zr (zR e hp)];exact e) (ux fun _ z=>nomatch z)
 refine R.objset hi ha he (Same.refl F) (fun b o e=>?_) (t1.ins he') (fun b u h1 _ e=>.of (kpp h1 e)) (fun b o e=>.inl e) ⟨C,dx,wz f (.ref p) vs,zB,q3,q4,?_,kpp hd q6,Ya q7 hpl⟩ fun l hl=>?_
 ·have:b≠a:=fun z=>by subst z;rw[q3] at e;cases e
  exact kpp this (R.rv.fh b o e)
 ·have k1:Flds K F (L2.upd H p (.lst ws)) c fs vs:=q5.keep (Same.refl F) fun l ws' hl e1 e2=>⟨by rw[zr (zR e1 hp)];exact e1,e2⟩
  have k2:=k1.put (f:=f) (d:=.lst ds) (v:=.ref p) (by unfold ZK;rw[if_pos ho];exact⟨ds,p,ws,rfl,rfl,zB,hFp,r⟩)
  refine k2.keep (Same.refl F) fun l ws' hl e1 e2=>⟨?_,e2⟩
  have:l≠a:=fun z=>by subst z;rw[he'] at e1;cases e1
  rw[zr this];exact e1
 ·rw[Lof.ins zB] at hl
  rcases Xa hl with z|z
  ·subst z;exact .inr hp
  ·exact .inl z
noncomputable def jD(i:Nat)(c f:Str)(ff:FA):FS:=fun τ=>Fl.of (ff τ) fun ds=>Fl.of (uw τ i c) fun p=>if p.2.length<1000 then .nx (τ.set i (some (.obj p.1 c (xQ f (.lst ds) p.2)))) else .no
section
variable{X:Cx}{pos:Pos}{e:Expr}{es:List Expr}{fe:FE}{ff:FA}{C:Addr}{c f x:Str}{i:Nat}
theorem Zn{p1 pos':Pos}(hx:PE X (.Name x p1) (wN i))(hC:nsIn X.K mainGlobals c=some (some (.ref C)))(cl:Cls X.K C)(na:NoAttr X.K C f)(he:PDF X e ff)(ho:Tabs.own c f=true:=by rfl)
  (hs:swapsWith e (some (.Attribute (.Name x p1) f pos')) pos.line X.env=pure false:=by rfl):PDS X (.Assign [.Attribute (.Name x p1) f pos'] e pos) (jD i c f ff):=
 PS.imp (Gw hx he hs) fun E σ H ⟨B,Z,F,τ,R,h⟩=>⟨F,τ,R.rv,h.of.imp fun ds g p ws F1 H1 x hp r=>by
  have R1:=R.ext x
  refine byc fun zG=>?_
  obtain⟨n,fs,h1,h2⟩:=ju (X:=X) (Post.of g)
  obtain⟨a,q1,C',dx,vs,q2,q3,q4,q5,q6⟩:=R1.rv.ob.at_ i n c fs h1
  refine zG ?_
  rw[hC] at q4
  obtain rfl:C=C':=by cases q4;rfl
  have hpa:p≠a:=fun z=>by subst z;rw[q2] at hp;cases hp
  by_cases z:fs.length<1000
  ·dsimp only at h2
   rw[if_pos z] at h2
   exact⟨_,q1,a,C,dx,vs,rfl,by rw[zr (Ne.symm hpa)];exact q2,cl,na,by rw[← q5.length];exact z,h2 σ F1 _ x.ff (R1.attN h1 q1 q2 ho hp r)⟩
  ·dsimp only at h2
   rw[if_neg z] at h2;exact h2.elim⟩
end
noncomputable def V1(τ:DS)(i:Nat)(c f:Str):Rs (List D):=(jG τ i c).bind fun fs=>match yR f fs with
 | some (.lst ds)=>.ok ds
 |_=>.no
theorem YC{X:Cx}{F H:Hp}{τ:DS}{σ:St}{i:Nat}{c f:Str}{P:List D→Prop}(R:RV X.K F τ σ H)(ho:Tabs.own c f=true)(h:Ok X (V1 τ i c f) P) :
  ∃ds a C dx vs l ws,σ[i]?=some (some (.ref a))∧H a=some (.ins C dx vs)∧nsIn X.K mainGlobals c=some (some (.ref C))∧vs.lookup f=some (.ref l)∧H l=some (.lst ws)∧F l=none∧Reps X.K F ds ws∧P ds:=by
 refine byc fun zG=>?_
 obtain⟨fs,a,C,dx,vs,h1,h2,h3,h4,h5⟩:=Zw R h.bind
 refine zG ?_
 have l:=h4.look (f:=f)
 cases q:yR f fs with
 |none=>rw[q] at h5;exact h5.elim
 |some d=>
  rw[q] at h5 l
  refine byc fun zG=>?_
  obtain⟨v,l1,l2⟩:=l
  unfold ZK at l2
  rw[if_pos ho] at l2
  obtain⟨ds,p,ws,rfl,rfl,e3,e4,e5⟩:=l2
  refine zG ?_
  exact⟨ds,a,C,dx,vs,p,ws,h1,h2,h3,l1,e3,e4,e5,h5⟩
noncomputable def omO(τ:DS)(i:Nat)(c f:Str):Rs (Nat×Fs×List D):=(uw τ i c).bind fun p=>match yR f p.2 with
 | some (.lst ds)=>.ok (p.1,p.2,ds)
 |_=>.no
structure OmW(K:Frag)(F H:Hp)(τ:DS)(σ:St)(i:Nat)(c f:Str)(P:Nat×Fs×List D→Prop)(n:Nat)(fs:Fs)(ds:List D)(a C dx:Addr)(vs:List (Str×V))(l:Addr)(ws:List V):Prop where
 b1:τ[i]?=some (some (.obj n c fs))
 b2:σ[i]?=some (some (.ref a))
 b3:H a=some (.ins C dx vs)
 b4:nsIn K mainGlobals c=some (some (.ref C))
 b5:vs.lookup f=some (.ref l)
 b6:H l=some (.lst ws)
 b7:F l=none
 b8:Reps K F ds ws
 b9:P (n,fs,ds)
theorem UP{X:Cx}{F H:Hp}{τ:DS}{σ:St}{i:Nat}{c f:Str}{P:Nat×Fs×List D→Prop}(R:RV X.K F τ σ H)(ho:Tabs.own c f=true)(h:Ok X (omO τ i c f) P) :
  ∃n fs ds a C dx vs l ws,OmW X.K F H τ σ i c f P n fs ds a C dx vs l ws:=by
 refine byc fun zG=>?_
 obtain⟨n,fs,h1,h2⟩:=ju (X:=X) h.bind
 obtain⟨a,q1,C,dx,vs,q2,q3,q4,q5,q6⟩:=R.ob.at_ i n c fs h1
 refine zG ?_
 have l:=q5.look (f:=f)
 dsimp only at h2
 cases q:yR f fs with
 |none=>rw[q] at h2;exact h2.elim
 |some d=>
  rw[q] at h2 l
  refine byc fun zG=>?_
  obtain⟨v,l1,l2⟩:=l
  unfold ZK at l2
  rw[if_pos ho] at l2
  obtain⟨ds,p,ws,rfl,rfl,e3,e4,e5⟩:=l2
  refine zG ?_
  exact⟨n,fs,ds,a,C,dx,vs,p,ws,h1,q1,q2,q4,l1,e3,e4,e5,h2⟩
theorem RS.attL{K:Frag}{B Z F H:Hp}{τ:DS}{σ:St}{i n:Nat}{c f:Str}{fs:Fs}{a C dx l:Addr}{vs:List (Str×V)}{ds:List D}{ws ws':List V}(R:RS K B Z F τ σ H)(hi:τ[i]?=some (some (.obj n c fs)))(ha:σ[i]?=some (some (.ref a)))(he:H a=some (.ins C dx vs))(ho:Tabs.own c f=true)(hl:vs.lookup f=some (.ref l))(hw:H l=some (.lst ws))(hF:F l=none)(r:Reps K F ds ws') :
  RS K B Z F (τ.set i (some (.obj n c (xQ f (.lst ds) fs)))) σ (L2.upd H l (.lst ws')):=by
 refine byc fun zG=>?_
 obtain⟨a',q1,C',dx',vs',q2,q3,q4,q5,q6,q7⟩:=R.rv.ob.at_ i n c fs hi
 refine zG ?_
 rw[ha] at q1;cases q1
 rw[he] at q2;cases q2
 have hin:=vF ho hl
 have hal:a≠l:=fun z=>by subst z;rw[he] at hw;cases hw
 have hdl:dx≠l:=fun z=>by subst z;rw[q6] at hw;cases hw
 have he':L2.upd H l (.lst ws') a=some (.ins C dx vs):=by rw[zr hal];exact he
 refine R.objset hi ha he (Same.refl F) (fun b o e=>?_) (R.rv.tt.step (fun _ _ e=>.inl e) (fun b o e m=>?_) (ux fun _ z=>nomatch z)) (fun b u _ h2 e=>.of ?_) (fun b o e=>.inl e) ⟨C,dx,vs,he',q3,q4,q5.updL ho r q7 hl,by rw[zr hdl];exact q6,q7⟩ fun l' hl'=>.inl (by rw[Lof.ins he'] at hl';exact hl')
 ·have:b≠l:=fun z=>by subst z;rw[hF] at e;cases e
  rw[zr this];exact R.rv.fh b o e
 ·have:b≠l:=fun z=>by subst z;rw[hw] at e;cases e;exact m _ rfl
  rw[zr this];exact e
 ·have:b≠l:=fun z=>by subst z;exact h2 hin
  rw[zr this];exact e
section
variable{X:Cx}{pos:Pos}{e:Expr}{es:List Expr}{fe:FE}{ff:FA}{C:Addr}{c f x:Str}{i:Nat}
theorem Z8{p1 p2:Pos}(hx:PE X (.Name x p1) (wN i))(hb:attributeBase (.Name x p1) f X.env (eval (.Name x p1) X.env)=eval (.Name x p1) X.env:=by rfl):PE X (.Attribute (.Name x p1) f p2) (tFld X.K (wN i) f):=GC hx hb
noncomputable def XI(i:Nat)(c f:Str)(fi:FE):FE:=fun τ=>(V1 τ i c f).bind fun ds=>(fi τ).bind fun k=>match k with
 |.int k=>match atI ds k with
  |some d=>.ok d
  |none=>.no
 |_=>.no
theorem YB{p1 p2:Pos}{ix:Expr}{fi:FE}(hx:PE X (.Name x p1) (wN i))(hC:nsIn X.K mainGlobals c=some (some (.ref C)))(cl:Cls X.K C)(na:NoAttr X.K C f)(hi:PDE X ix fi)(ho:Tabs.own c f=true:=by rfl)(hs:YM ix:=by intro _ _;rfl):PDE X (.Subscript (.Attribute (.Name x p1) f p2) ix pos) (XI i c f fi):=
 PE.imp (GA ix_list (Z8 hx) hi hs) fun σ H Q z_=>by
  refine byc fun zG=>?_
  obtain⟨F,τ,R,h⟩:=z_
  obtain⟨ds,a,C',dx,vs,l,ws,h1,h2,h3,h4,h5,h6,h7,h8⟩:=YC R ho (Ok.bind h)
  refine zG ?_
  obtain rfl:C=C':=by rw[hC] at h3;cases h3;rfl
  refine⟨_,h1,a,C,dx,vs,.ref l,rfl,h2,cl,na,h4,?_⟩
  refine tE.of R h8.bind fun k w F2 H2 g2 x2 R2 r2=>?_
  cases k with
  |int k=>
   simp only[Rep] at r2
   simp only at g2
   cases q:atI ds k with
   |none=>rw[q] at g2;exact g2.elim
   |some d=>
    rw[q] at g2
    obtain⟨v,z1,z2⟩:=ZJ h7 q
    exact⟨l,ws,k,v,rfl,r2,SqL.of (x2.hh _ _ h5),z1,g2 v F2 H2 x2 (z2.mono x2.ff)⟩
  |_=>exact g2.elim
noncomputable def vo(i:Nat)(c f:Str):FE:=fun τ=>(V1 τ i c f).bind fun ds=>.ok (.int ds.length)
theorem u6{p1 p2 p:Pos}(hx:PE X (.Name x p1) (wN i))(hC:nsIn X.K mainGlobals c=some (some (.ref C)))(cl:Cls X.K C)(na:NoAttr X.K C f)(hg:Gl X "len")(hm:X.mg "len" = none)(ho:Tabs.own c f=true:=by rfl)
  (he:starEach [.Attribute (.Name x p1) f p2] X.env=[(false,eval (.Attribute (.Name x p1) f p2) X.env)]:=by rfl) (hpl:(backTo pos (starEach [] X.env)).any (·.1)=false:=by rfl):PDE X (.Call (.Name "len" p) [.Attribute (.Name x p1) f p2] [] pos) (vo i c f):=
 PE.imp (pe_callB call_len_seq hg hm PySem.boot_len (vz (Z8 hx) jT (by rw[he];rfl)) (he:=by rw[he];rfl) (hpl:=hpl)) fun σ H Q z_=>by
  refine byc fun zG=>?_
  obtain⟨F,τ,R,h⟩:=z_
  obtain⟨ds,a,C',dx,vs,l,ws,h1,h2,h3,h4,h5,h6,h7,h8⟩:=YC R ho (Ok.bind h)
  refine zG ?_
  obtain rfl:C=C':=by rw[hC] at h3;cases h3;rfl
  refine⟨_,h1,a,C,dx,vs,.ref l,rfl,h2,cl,na,h4,l,ws,rfl,.inl (SqL.of h5),?_⟩
  rw[← h7.length]
  exact h8 (.int ds.length) F H (Ext.refl R.fh) (by simp only[Rep])
noncomputable def VS(i:Nat)(c f:Str)(fe:FE):FS:=fun τ=>Fl.of (omO τ i c f) fun p=>Fl.of (fe τ) fun d=>if p.2.2.length<sizeLine then .nx (τ.set i (some (.obj p.1 c (xQ f (.lst (p.2.2++[d])) p.2.1)))) else .no
theorem GJ{p1 p2 apos cpos:Pos}(hx:PE X (.Name x p1) (wN i))(hC:nsIn X.K mainGlobals c=some (some (.ref C)))(cl:Cls X.K C)(na:NoAttr X.K C f)(he:PDE X e fe)(ho:Tabs.own c f=true:=by rfl)
  (hfew:((backTo cpos (starEach [e] X.env)).all (fun x=>!x.1)&&(backToKw cpos (keywordEach [] X.env)).all (fun x=>x.1.isSome)
   && decide ([e].length+([]:List Keyword).length+(if ([]:List Keyword).isEmpty then 0 else 1)<30))=true:=by rfl)
  (hline:(apos.endLine==cpos.line)=true:=by rfl) (hs:starEach [e] X.env=[(false,eval e X.env)]:=by rfl) (hplain:(backTo cpos (starEach [] X.env)).any (·.1)=false:=by rfl)
  (hbase:attributeBase (.Attribute (.Name x p1) f p2) "append" X.env (eval (.Attribute (.Name x p1) f p2) X.env)=eval (.Attribute (.Name x p1) f p2) X.env:=by rfl)
  (hsw:swapsWith (.Call (.Attribute (.Attribute (.Name x p1) f p2) "append" apos) [e] [] cpos) none pos.line X.env=pure false:=by rfl) :
  PDS X (.Expr (.Call (.Attribute (.Attribute (.Name x p1) f p2) "append" apos) [e] [] cpos) pos) (VS i c f fe):=
 PS.imp (Yu (GE PySem.F.plainAttrs_list PySem.F.slot_list_append PySem.F.type_list_append jx (Z8 hx) (vz he jT (by rw[hs];rfl)) hbase hfew hline (by rw[hs];rfl) hplain) hsw) fun E σ H z_=>by
  refine byc fun zG=>?_
  obtain⟨B,Z,F,τ,R,h⟩:=z_
  obtain⟨n,fs,ds,a,C',dx,vs,l,ws,h0,h1,h2,h3,h4,h5,h6,h7,h8⟩:=UP R.rv ho (Post.of h)
  refine zG ?_
  obtain rfl:C=C':=by rw[hC] at h3;cases h3;rfl
  refine⟨_,h1,a,C,dx,vs,.ref l,rfl,h2,cl,na,h4,.inl ⟨rfl,ws,SqL.of h5⟩,?_⟩
  refine tE.at R (Post.of h8) fun d v F1 H1 g x R1 r=>?_
  have hF1:F1 l=none:=by
   cases q:F1 l with
   |none=>rfl
   |some w=>
    rcases x.nw l w q with z|z
    ·rw[h6] at z;cases z
    ·rw[h5] at z;cases z
  by_cases z:ds.length<sizeLine
  ·dsimp only at g
   rw[if_pos z] at g
   refine⟨l,ws,v,rfl,rfl,x.hh _ _ h5,by rw[← h7.length];exact z,?_⟩
   exact g _ F1 _ x.ff (R1.attL h0 h1 (x.hh _ _ h2) ho h4 (x.hh _ _ h5) hF1 ((h7.mono x.ff).append (Reps.cons r Reps.nil)))
  ·dsimp only at g
   rw[if_neg z] at g;exact g.elim
end
structure zi3(F B F' H':Hp):Prop where
 ff:Same F F'
 hh:Hh B H'
 fh:Same F' H'
 nw:∀a o,F' a=some o→F a=some o∨B a=none
 tt:TbT F' H'
theorem RS.outO{K:Frag}{B Z F H:Hp}{τ:DS}{σ:St}(R:RS K B Z F τ σ H):zi3 Z B F H:=⟨R.zf,R.bh,R.rv.fh,R.nb,R.rv.tt⟩
noncomputable def vZ(H:Hp)(c:Str)(a:Addr):Hp:=fun b=>if b=a∨b∈Lof H c a then none else H b
theorem JW(H:Hp)(c:Str)(a:Addr):vZ H c a a=none:=if_pos (.inl rfl)
theorem Lq{H:Hp}{c:Str}{a l:Addr}(h:l∈Lof H c a):vZ H c a l=none:=if_pos (.inr h)
theorem ZA{H:Hp}{c:Str}{a b:Addr}(h1:b≠a)(h2:b∉Lof H c a):vZ H c a b=H b:=if_neg fun z=>z.elim h1 h2
theorem Xy{H:Hp}{c:Str}{a b:Addr}{o:HO}(h:vZ H c a b=some o):H b=some o:=by
 unfold vZ at h
 split at h
 ·cases h
 ·exact h
theorem jY{H:Hp}{c:Str}{a b:Addr}(h:vZ H c a b=none):b=a∨b∈Lof H c a∨H b=none:=by
 unfold vZ at h
 split at h
 ·rename_i z;exact z.elim .inl fun z=>.inr (.inl z)
 ·exact .inr (.inr h)
noncomputable def spM(K:Frag)(c:Str)(j n:Nat)(g:Fs→List D→Rs (D×Fs)):Sp:=fun vs H Q E=>vs.length=n+1∧∃a us1 us2 ds1 ds2 fs F,vs=us1 ++ .ref a::us2∧us1.length=j∧We K F H c fs a∧Same F H∧TbT F H∧Reps K F ds1 us1∧Reps K F ds2 us2∧match g fs (ds1++ds2) with
 | .ok (d,fs')=>∀v F' H',zi3 F (vZ H c a) F' H'→We K F' H' c fs' a→(∀l∈Lof H' c a,l∈Lof H c a∨H l=none)→Rep K F' d v→Q v H'
 |_=>False
noncomputable def spR(K:Frag)(c:Str)(j n:Nat)(g:Fs→List D→Rs D):Sp:=fun vs H Q E=>vs.length=n+1∧∃a us1 us2 ds1 ds2 fs F C dx ws,vs=us1 ++ .ref a::us2∧us1.length=j∧H a=some (.ins C dx ws)∧nsIn K mainGlobals c=some (some (.ref C))∧Flds K F H c fs ws∧Same F H∧TbT F H∧Reps K F ds1 us1∧Reps K F ds2 us2∧match g fs (ds1++ds2) with
 |.ok d=>Ev K F H Q d
 |_=>False
theorem RS.meth{K:Frag}{B Z F H F' H':Hp}{τ:DS}{σ:St}{i n:Nat}{c:Str}{fs fs':Fs}{a:Addr}(R:RS K B Z F τ σ H)(hi:τ[i]?=some (some (.obj n c fs)))(ha:σ[i]?=some (some (.ref a)))(x:zi3 F (vZ H c a) F' H')(o:We K F' H' c fs' a)(nw:∀l∈Lof H' c a,l∈Lof H c a∨H l=none) :
  RS K B Z F' (τ.set i (some (.obj n c fs'))) σ H':=by
 refine byc fun zG=>?_
 obtain⟨a',q1,C,dx,vs,he,_⟩:=R.rv.ob.at_ i n c fs hi
 refine zG ?_
 rw[ha] at q1;cases q1
 have hL:Lof H c a=yM c vs:=Lof.ins he
 refine R.objset hi ha he x.ff x.fh x.tt (fun b u h1 h2 e=>x.hh b u (by rw[ZA h1 (by rw[hL];exact h2)];exact e)) (fun b u e=>?_) o fun l hl=>by rw[← hL];exact nw l hl
 rcases x.nw b u e with z|z
 ·exact .inl z
 ·rcases jY z with z|z|z
  ·exact .inr (.inr (.inl z))
  ·exact .inr (.inr (.inr (by rw[← hL];exact z)))
  ·exact .inr (.inl z)
noncomputable def y8(s0:Sl)(j N:Nat)(ds:List D):DS:=(ds.take j).map (fun d=>some (.val d))++some s0::((ds.drop j).map (fun d=>some (.val d))++List.replicate (N-(ds.length+1)) none)
noncomputable def uT(s0:Sl)(ds1 ds2:List D)(N:Nat):DS:=ds1.map (fun d=>some (.val d))++some s0::(ds2.map (fun d=>some (.val d))++List.replicate (N-(ds1.length+ds2.length+1)) none)
omit [Tabs] in
theorem ZN{s0:Sl}{j N:Nat}{ds1 ds2:List D}(h:ds1.length=j):y8 s0 j N (ds1++ds2)=uT s0 ds1 ds2 N:=by
 unfold y8 uT
 subst h
 rw[List.take_left,List.drop_left,length_append]
omit [Tabs] in
theorem XQ{s0:Sl}{N:Nat}{ds1 ds2:List D}{i:Nat}{o:Sl}(h:(uT s0 ds1 ds2 N)[i]?=some (some o)):(i=ds1.length∧o=s0)∨(∃d,ds1[i]?=some d∧o=.val d)∨∃k d,i=ds1.length+1+k∧ds2[k]?=some d∧o=.val d:=by
 unfold uT at h
 by_cases h1:i<ds1.length
 ·rw[getElem?_append_left (by simpa using h1),getElem?_map] at h
  cases e:ds1[i]? with
  |none=>rw[e] at h;cases h
  |some d=>rw[e] at h;cases h;exact .inr (.inl ⟨d,rfl,rfl⟩)
 ·rw[getElem?_append_right (by simpa using h1),length_map] at h
  cases e:i-ds1.length with
  |zero=>rw[e] at h;simp at h;exact .inl ⟨by lia,h.symm⟩
  |succ k=>
   rw[e,getElem?_cons_succ] at h
   by_cases h2:k<ds2.length
   ·rw[getElem?_append_left (by simpa using h2),getElem?_map] at h
    cases e2:ds2[k]? with
    |none=>rw[e2] at h;cases h
    |some d=>rw[e2] at h;cases h;exact .inr (.inr ⟨k,d,by lia,e2,rfl⟩)
   ·rw[getElem?_append_right (by simpa using h2),getElem?_replicate] at h
    split at h <;> cases h
theorem ZR{K:Frag}{F H B:Hp}{N:List Str}{ds1 ds2:List D}{us1 us2:List V}{a:Addr}{s0:Sl}(hs:Vm (some s0)=true)(fh:Same F H)(tt:TbT F H)(r1:Reps K F ds1 us1)(r2:Reps K F ds2 us2)
  (h1:∀n c fs,s0=.obj n c fs→We K F H c fs a∧B=vZ H c a) (h2:∀c fs,s0=.obr c fs→(∃C dx vs,H a=some (.ins C dx vs)∧nsIn K mainGlobals c=some (some (.ref C))∧Flds K F H c fs vs)) (hb:Hh B H) (hnb:∀b o,B b=some o→H b=some o) (h3:∀c fs,s0=.obr c fs→B=H) :
  RS K B F F (uT s0 ds1 ds2 N.length) (L2.start N (us1 ++ .ref a::us2)) H:=by
 have hl1:=r1.length
 have hl2:=r2.length
 have s1:∀{i:Nat} {v:V},us1[i]?=some v→(L2.start N (us1 ++ .ref a::us2))[i]?=some (some v):=fun {i v} q=>by
  have hi:i<us1.length:=(List.getElem?_eq_some_iff.mp q).1
  unfold L2.start
  rw[getElem?_append_left (by simp;lia),getElem?_map,getElem?_append_left hi,q];rfl
 have s2:∀{k:Nat} {v:V},us2[k]?=some v→(L2.start N (us1 ++ .ref a::us2))[us1.length+1+k]?=some (some v):=fun {k v} q=>by
  have hi:k<us2.length:=(List.getElem?_eq_some_iff.mp q).1
  unfold L2.start
  rw[getElem?_append_left (by simp;lia),getElem?_map,getElem?_append_right (by lia),show us1.length+1+k-us1.length=k+1 by lia,getElem?_cons_succ,q];rfl
 have s0':(L2.start N (us1 ++ .ref a::us2))[ds1.length]?=some (some (.ref a)):=by
  unfold L2.start
  rw[getElem?_append_left (by simp;lia),getElem?_map,getElem?_append_right (by lia),hl1];simp
 have only:∀{i:Nat} {o:Sl},Vm (some o)=true→(uT s0 ds1 ds2 N.length)[i]?=some (some o)→i=ds1.length∧o=s0:=fun {i o} ho h=>by
  rcases XQ h with e|⟨d,_,e⟩|⟨k,d,_,_,e⟩
  ·exact e
  ·subst e;cases ho
  ·subst e;cases ho
 have onlyS:∀{i:Nat} {c:Str},ObS (uT s0 ds1 ds2 N.length)[i]? c→i=ds1.length:=fun {i c} h=>by
  rcases h with ⟨n,fs,h⟩|⟨fs,h⟩
  ·exact(only rfl h).1
  ·exact(only rfl h).1
 have noown:∀{i:Nat} {es:List D},(uT s0 ds1 ds2 N.length)[i]?=some (some (.own es))→False:=fun {i es} h=>by
  rcases XQ h with ⟨_,e⟩|⟨d,_,e⟩|⟨k,d,_,_,e⟩
  ·rw[← e] at hs;cases hs
  ·cases e
  ·cases e
 refine⟨⟨fh,?_,fun i d h=>?_,fun i es h=>(noown h).elim,fun i j es es' b _ h1=>(noown h1).elim,tt,⟨fun i n c fs h=>?_,fun i j n c c' fs b hij g1 g2 _ _=>?_,fun i c fs h=>?_,fun i j n c c' fs b b' l hij g1 g2=>?_,fun i j c ds b l _ g2=>(noown g2).elim⟩⟩,hb,Same.refl F,fun a o e=>.inl e,fun i es b g1=>(noown g1).elim,fun i n c fs b g1 g2=>?_,fun a0 dx b1 b2 i n c fs g1=>?_,fun i c fs b g1 g2=>?_⟩
 ·simp[uT,L2.start,hl1,hl2];lia
 ·rcases XQ h with ⟨_,e⟩|⟨d',e1,e⟩|⟨k,d',rfl,e1,e⟩
  ·rw[← e] at hs;cases hs
  ·cases e
   obtain⟨v,q1,q2⟩:=r1.get e1
   exact⟨v,s1 q1,q2⟩
  ·cases e
   obtain⟨v,q1,q2⟩:=r2.get e1
   exact⟨v,by rw[hl1];exact s2 q1,q2⟩
 ·obtain⟨rfl,e⟩:=only rfl h
  exact⟨a,s0',(h1 n c fs e.symm).1⟩
 ·exact hij ((only rfl g1).1.trans (onlyS g2).symm)
 ·refine byc fun zG=>?_
  obtain⟨rfl,e⟩:=only rfl h
  obtain⟨C,dx,vs,q1,q2,q3⟩:=h2 c fs e.symm
  refine zG ?_
  exact⟨a,C,dx,vs,s0',q1,q2,q3⟩
 ·exact absurd ((only rfl g1).1.trans (onlyS g2).symm) hij
 ·obtain⟨rfl,e⟩:=only rfl g1
  rw[s0'] at g2;cases g2
  rw[(h1 n c fs e.symm).2]
  exact⟨JW _ _ _,fun l hl=>Lq hl⟩
 ·refine byc fun zG=>?_
  obtain⟨rfl,e⟩:=only rfl g1
  obtain⟨p1,p2⟩:=h1 (n+1) c fs e.symm
  obtain⟨C,dx',vs,q2⟩:=tt.2 dx a0 (hnb _ _ b1)
  refine zG ?_
  by_cases z:a0=a
  ·rw[z];exact s0'
  ·have:a0∉Lof H c a:=fun y=>by
    refine byc fun zG=>?_
    obtain⟨C2,dx2,vs2,o1,_,_,o4,_⟩:=p1
    rw[Lof.ins o1] at y
    obtain⟨_,ws,q⟩:=o4.own y
    refine zG ?_
    rw[q2] at q;cases q
   rw[p2,ZA z this,q2] at b2;cases b2
 ·obtain⟨rfl,e⟩:=only rfl g1
  rw[s0'] at g2;cases g2
  refine byc fun zG=>?_
  obtain⟨C,dx,vs,q1,q2,q3⟩:=h2 c fs e.symm
  refine zG ?_
  rw[h3 c fs e.symm]
  exact⟨C,dx,vs,q1,fun l hl=>(q3.own hl).2⟩
noncomputable def flM(j:Nat)(c:Str):Fl→Rs (D×Fs)
 |.ro d τ=>(uw τ j c).bind fun p=>if p.1=1 then .ok (d,p.2) else .no
 |.nx τ=>(uw τ j c).bind fun p=>if p.1=1 then .ok (.non,p.2) else .no
 |_=>.no
noncomputable def vy(N j:Nat)(c:Str)(fb:FS)(fs:Fs)(ds:List D):Rs (D×Fs):=flM j c (fb (y8 (.obj 1 c fs) j N ds))
noncomputable def Ze(N j:Nat)(c:Str)(fb:FS)(fs:Fs)(ds:List D):Rs D:=WD (fb (y8 (.obr c fs) j N ds))
theorem JD{τ:DS}{i n:Nat}{c:Str}{fs:Fs}(h:uw τ i c=.ok (n,fs)):τ[i]?=some (some (.obj n c fs)):=by
 unfold uw at h
 split at h
 ·rename_i m c' gs e
  by_cases z:c'=c
  ·subst z;rw[if_pos rfl] at h;cases h;exact e
  ·rw[if_neg z] at h;cases h
 ·cases h
section
variable{P:Program}{w:World}{K:Frag}{mg:Str→Option Value}{base:Heap}
theorem My(H:Hp)(c:Str)(a:Addr):Hh (vZ H c a) H:=fun b o e=>.of (Xy e)
theorem fnM{x qual c:Str}{st:Stmt}{f:Addr}{fd:FuncData}{N ps:List Str}{k n j:Nat}{fb:FS}(F:Fun K x qual st f fd)(S:zD N ps (zi st))(hn:ps.length=n+1)
  (hbody:∀(cdv:Value) (A:Around) (outer:List Env) (s:Shared) (H:Hp) (E:XK),Room k (A.deeper (envOfC qual (zi st) s.heap.objs.size f cdv)) →
   vD (uS CX0 P w K mg base N qual (zi st) f cdv A outer s H E).nox (zt st) fb):FnOk P w K mg base CX0 (k+1) f fd ps (spM K c j n (vy N.length j c fb)):=by
 refine F.ok S (fun vs H Q E h=>by rw[hn];exact h.1) fun cdv A outer s H vs Q E hr h=>⟨_,hbody cdv A outer s H E hr,?_⟩
 refine byc fun zG=>?_
 obtain⟨hl,a,us1,us2,ds1,ds2,fs,Fz,rfl,hj,ob,fh,tt,r1,r2,h⟩:=h
 refine zG ?_
 have hd1:ds1.length=j:=r1.length.trans hj
 have st:y8 (.obj 1 c fs) j N.length (ds1++ds2)=uT (.obj 1 c fs) ds1 ds2 N.length:=ZN hd1
 refine⟨vZ H c a,Fz,Fz,uT (.obj 1 c fs) ds1 ds2 N.length,ZR rfl fh tt r1 r2 (fun n' c' fs' e=>by cases e;exact⟨ob,rfl⟩) (fun c' fs' e=>by cases e) (My H c a) (fun b o e=>Xy e) (fun c' fs' e=>by cases e),?_⟩
 refine byc fun zG=>?_
 obtain⟨C,dx,ws,o1,o2,o3,o4,o5,o6⟩:=ob
 refine zG ?_
 have hdx:vZ H c a dx=some (.own a):=by
  have n1:dx≠a:=fun z=>by subst z;rw[o1] at o5;cases o5
  have n2:dx∉Lof H c a:=fun z=>by
   rw[Lof.ins o1] at z
   obtain⟨_,ws',q⟩:=o4.own z
   rw[o5] at q;cases q
  rw[ZA n1 n2];exact o5
 have fin:∀{τ:DS} {σ:St} {F' H':Hp} {fs':Fs},uw τ j c=.ok (1,fs')→RS K (vZ H c a) Fz F' τ σ H'→We K F' H' c fs' a∧∀l∈Lof H' c a,l∈Lof H c a∨H l=none:=fun {τ σ F' H' fs'} q RR=>by
  have z:=JD q
  obtain⟨a',p1,p2⟩:=RR.rv.ob.at_ j 1 c fs' z
  have:=RR.sf a dx hdx (JW _ _ _) j 0 c fs' z
  rw[p1] at this;cases this
  refine⟨p2,fun l hl=>?_⟩
  rcases jY ((RR.oo j 1 c fs' a z p1).2 l hl) with y|y|y
  ·subst y
   refine byc fun zG=>?_
   obtain⟨C',dx',vs',g1,_,_,g4,_⟩:=p2
   rw[Lof.ins g1] at hl
   obtain⟨_,ws',q⟩:=g4.own hl
   refine zG ?_
   rw[g1] at q;cases q
  ·exact .inl y
  ·exact .inr y
 unfold vy at h
 rw[st] at h
 cases q:fb (uT (.obj 1 c fs) ds1 ds2 N.length) with
 |nx τ=>
  rw[q] at h
  cases z:uw τ j c with
  |ok p=>
   obtain⟨m,fs'⟩:=p
   simp only[flM,z,Rs.bind] at h
   by_cases hm:m=1
   ·subst hm
    rw[if_pos rfl] at h
    exact fun σ F' H' ff RR=>h .non F' H' RR.outO (fin z RR).1 (fin z RR).2 (by simp only[Rep])
   ·rw[if_neg hm] at h;exact h.elim
  |ex c=>simp only[flM,z,Rs.bind] at h
  |no=>simp only[flM,z,Rs.bind] at h
 |ro d τ=>
  rw[q] at h
  cases z:uw τ j c with
  |ok p=>
   obtain⟨m,fs'⟩:=p
   simp only[flM,z,Rs.bind] at h
   by_cases hm:m=1
   ·subst hm
    rw[if_pos rfl] at h
    exact fun v σ F' H' ff RR rr=>h v F' H' RR.outO (fin z RR).1 (fin z RR).2 rr
   ·rw[if_neg hm] at h;exact h.elim
  |ex c=>simp only[flM,z,Rs.bind] at h
  |no=>simp only[flM,z,Rs.bind] at h
 |rb d τ=>rw[q] at h;exact h.elim
 |rt d=>rw[q] at h;exact h.elim
 |bk τ=>rw[q] at h;exact h.elim
 |ct τ=>rw[q] at h;exact h.elim
 |ex c=>rw[q] at h;exact h.elim
 |no=>rw[q] at h;exact h.elim
 |rs c τ=>rw[q] at h;exact h.elim
theorem fnR{x qual c:Str}{st:Stmt}{f:Addr}{fd:FuncData}{N ps:List Str}{k n j:Nat}{fb:FS}(F:Fun K x qual st f fd)(S:zD N ps (zi st))(hn:ps.length=n+1)
  (hbody:∀(cdv:Value) (A:Around) (outer:List Env) (s:Shared) (H:Hp) (E:XK),Room k (A.deeper (envOfC qual (zi st) s.heap.objs.size f cdv)) →
   vD (uS CX0 P w K mg base N qual (zi st) f cdv A outer s H E).nox (zt st) fb):FnOk P w K mg base CX0 (k+1) f fd ps (spR K c j n (Ze N.length j c fb)):=by
 refine F.ok S (fun vs H Q E h=>by rw[hn];exact h.1) fun cdv A outer s H vs Q E hr h=>⟨_,hbody cdv A outer s H E hr,?_⟩
 refine byc fun zG=>?_
 obtain⟨hl,a,us1,us2,ds1,ds2,fs,Fz,C,dx,ws,rfl,hj,o1,o2,o3,fh,tt,r1,r2,h⟩:=h
 refine zG ?_
 have hd1:ds1.length=j:=r1.length.trans hj
 have st:y8 (.obr c fs) j N.length (ds1++ds2)=uT (.obr c fs) ds1 ds2 N.length:=ZN hd1
 refine⟨H,Fz,Fz,uT (.obr c fs) ds1 ds2 N.length,ZR rfl fh tt r1 r2 (fun n' c' fs' e=>by cases e) (fun c' fs' e=>by cases e;exact⟨C,dx,ws,o1,o2,o3⟩) (Hh.refl H) (fun _ _ e=>e) (fun _ _ _=>rfl),?_⟩
 unfold Ze at h
 rw[st] at h
 cases q:fb (uT (.obr c fs) ds1 ds2 N.length) with
 |nx τ=>rw[q] at h;exact fun σ F' H' ff RR=>h .non F' H' RR.out (by simp only[Rep])
 |rt d=>rw[q] at h;exact fun v F' H' x rr=>h v F' H' x rr
 |ro d τ=>rw[q] at h;exact fun v σ F' H' ff RR rr=>h v F' H' RR.out rr
 |rb d τ=>rw[q] at h;exact h.elim
 |bk τ=>rw[q] at h;exact h.elim
 |ct τ=>rw[q] at h;exact h.elim
 |ex c=>rw[q] at h;exact h.elim
 |no=>rw[q] at h;exact h.elim
 |rs c τ=>rw[q] at h;exact h.elim
end
noncomputable abbrev FOb:=DS→Rs (D×DS)
noncomputable abbrev j6:=DS→Rs (Bool×DS)
noncomputable def tOb(X:Cx)(f:FOb):TE:=fun σ H Q=>∃B Z F τ,RS X.K B Z F τ σ H∧Ok X (f τ) fun p=>∀v F' H',Same F F'→RS X.K B Z F' p.2 σ H'→Rep X.K F' p.1 v→Q v H'
noncomputable def tObT(X:Cx)(f:j6):TT:=fun σ H Q=>∃B Z F τ,RS X.K B Z F τ σ H∧Ok X (f τ) fun p=>∀F' H',Same F F'→RS X.K B Z F' p.2 σ H'→Q p.1 H'
noncomputable def VB(X:Cx)(e:Expr)(f:FOb):Prop:=PE X e (tOb X f)
noncomputable def jO(X:Cx)(e:Expr)(f:j6):Prop:=PT X e (tObT X f)
noncomputable def J5(X:Cx)(e:Expr)(f:j6):Prop:=PW X e (tObT X f)
noncomputable def MetM(P:Program)(w:World)(K:Frag)(mg:Str→Option Value)(base:Heap)(c m:Str)(k n:Nat)(ps:List Str)(g:Fs→List D→Rs (D×Fs)):Prop:=
 ∃C f fd,nsIn K mainGlobals c=some (some (.ref C))∧Cls K C∧uM K C m f∧FnOk P w K mg base CX0 k f fd ps (spM K c 0 n g)∧Binds K fd ps []
noncomputable def MetR(P:Program)(w:World)(K:Frag)(mg:Str→Option Value)(base:Heap)(c m:Str)(k n:Nat)(ps:List Str)(g:Fs→List D→Rs D):Prop:=
 ∃C f fd,nsIn K mainGlobals c=some (some (.ref C))∧Cls K C∧uM K C m f∧FnOk P w K mg base CX0 k f fd ps (spR K c 0 n g)∧Binds K fd ps []
noncomputable def ClsM(P:Program)(w:World)(K:Frag)(mg:Str→Option Value)(base:Heap)(c:Str)(k n:Nat)(ps:List Str)(g:Fs→List D→Rs (D×Fs)):Prop:=
 ∃C f fd,nsIn K mainGlobals c=some (some (.ref C))∧mg c=some (.ref C)∧Mk K C f∧FnOk P w K mg base CX0 k f fd ps (spM K c 0 n g)∧Binds K fd ps []
noncomputable def DefM(P:Program)(w:World)(K:Frag)(mg:Str→Option Value)(base:Heap)(x c:Str)(k j n:Nat)(ps:List Str)(g:Fs→List D→Rs (D×Fs)):Prop:=
 ∃f fd,FnOk P w K mg base CX0 k f fd ps (spM K c j n g)∧Binds K fd ps []∧keepIn K (.ref f)=true∧mg x=some (.ref f)
noncomputable def DefR(P:Program)(w:World)(K:Frag)(mg:Str→Option Value)(base:Heap)(x c:Str)(k j n:Nat)(ps:List Str)(g:Fs→List D→Rs D):Prop:=
 ∃f fd,FnOk P w K mg base CX0 k f fd ps (spR K c j n g)∧Binds K fd ps []∧keepIn K (.ref f)=true∧mg x=some (.ref f)
section
variable{X:Cx}{pos:Pos}{e a b:Expr}{es rest:List Expr}{fe fb:FE}{fs:FA}{c m x:Str}{i k n:Nat}{ps:List Str}{fo:FOb}{ga gb:j6}
noncomputable def yp(i:Nat)(c m:Str)(g:Fs→List D→Rs D)(fs:FA):FE:=fun τ=>(jG τ i c).bind fun o=>if (yR m o).isNone=true then (fs τ).bind fun ds=>Vd (g o ds) else .no
theorem Me{C:Addr}{g:Fs→List D→Rs D}(hC:nsIn X.K mainGlobals c=some (some (.ref C)))(hfs:∀τ ds,fs τ=.ok ds→ds.length=n){σ:St}{H:Hp}{Q:VK}(h:tE X (yp i c m g fs) σ H Q):Jm C m (spR X.K c 0 n g) [] E0 (wN i) (tAs X fs) σ H Q:=by
 refine byc fun zG=>?_
 obtain⟨F,τ,R,h⟩:=h
 obtain⟨o,a,C',dx,vs,h1,h2,h3,h4,h5⟩:=Zw R h.bind
 refine zG ?_
 obtain rfl:C=C':=by rw[hC] at h3;cases h3;rfl
 have l:=h4.look (f:=m)
 cases z:yR m o with
 |some d=>rw[z,if_neg (by simp)] at h5;exact h5.elim
 |none=>
  rw[z] at l h5
  rw[if_pos (by rfl)] at h5
  refine⟨_,h1,a,dx,vs,rfl,h2,l,F,τ,R,?_⟩
  have hb:=h5.bind
  cases q:fs τ with
  |no=>rw[q] at hb;exact hb
  |ex c=>rw[q] at hb;exact hb
  |ok ds=>
   rw[q] at hb
   intro us F1 H1 x r
   rw[append_nil]
   refine⟨by rw[length_cons,← r.length,hfs τ ds q],a,[],us,[],ds,o,F1,C,dx,vs,rfl,rfl,x.hh _ _ h2,h3,h4.keep x.ff fun l ws _ e1 e2=>⟨x.hh _ _ e1,?_⟩,x.fh,x.tt R.tt,Reps.nil,r,?_⟩
   ·cases y:F1 l with
    |none=>rfl
    |some u=>
     rcases x.nw l u y with z|z
     ·rw[e2] at z;cases z
     ·rw[e1] at z;cases z
   show match g o ds with
    |.ok d=>Ev X.K F1 H1 Q d
    |_=>False
   have hb:Ok X (Vd (g o ds)) (Ev X.K F H Q):=hb
   cases z:g o ds with
   |ok d=>rw[z] at hb;exact Ev.ext hb x
   |ex c=>rw[z] at hb;exact hb.elim
   |no=>rw[z] at hb;exact hb.elim
theorem G2{σ:St}{H:Hp}{Q:List V→Hp→Prop}(h:tAs X zg σ H Q):za5 σ H Q:=by
 refine byc fun zG=>?_
 obtain⟨F,τ,R,h⟩:=h
 refine zG ?_
 exact h [] F H (Ext.refl R.fh) Reps.nil
theorem yD{g:Fs→List D→Rs D}{p1 apos:Pos}{pl:Sem Bool}(M:MetR X.prog X.w X.K X.mg X.base c m k 0 ps g)(hr:Room k X.A)(hx:PE X (.Name x p1) (wN i))
  (ht:eval (.Call (.Attribute (.Name x p1) m apos) [] [] pos) X.env=(do
   let ov ← eval (.Name x p1) X.env
   standAt apos.atName
   let (f,first) ← holding [ov] (getMethod ov m pl)
   callWith pos f first (backTo pos (starEach [] X.env)) (backToKw pos (keywordEach [] X.env))):=by rfl) :
  PDE X (.Call (.Attribute (.Name x p1) m apos) [] [] pos) (yp i c m g zg):=by
 refine byc fun zG=>?_
 obtain⟨C,f,fd,hC,cl,hm,F,hb⟩:=M
 refine zG ?_
 refine PE.imp (Y2 hx cl hm F hr hb .nil (E:=E0) Z9 ht) fun σ H Q h=>?_
 refine byc fun zG=>?_
 obtain⟨v,h1,a,dx,vs,h2,h3,h4,h5⟩:=Me (n:=0) hC (fun τ ds h=>by cases h;rfl) h
 refine zG ?_
 exact⟨v,h1,a,dx,vs,h2,h3,h4,G2 h5⟩
noncomputable def xS(i:Nat)(c m:Str)(g:Fs→List D→Rs (D×Fs))(fs:FA):FOb:=fun τ=>(uw τ i c).bind fun p=>if (yR m p.2).isNone=true then (fs τ).bind fun ds=>(match g p.2 ds with
 | .ok (d,o')=>.ok (d,τ.set i (some (.obj p.1 c o')))
 |_=>.no) else .no
theorem JI{C:Addr}{g:Fs→List D→Rs (D×Fs)}(hC:nsIn X.K mainGlobals c=some (some (.ref C)))(hfs:∀τ ds,fs τ=.ok ds→ds.length=n){σ:St}{H:Hp}{Q:VK}(h:tOb X (xS i c m g fs) σ H Q):Jm C m (spM X.K c 0 n g) [] E0 (wN i) (tAs X fs) σ H Q:=by
 refine byc fun zG=>?_
 obtain⟨B,Z,F,τ,R,h⟩:=h
 obtain⟨t,o,h1,h5⟩:=ju (X:=X) h.bind
 dsimp only at h5
 obtain⟨a,q1,C',dx,vs,q2,q3,q4,q5,q6⟩:=R.rv.ob.at_ i t c o h1
 refine zG ?_
 obtain rfl:C=C':=by rw[hC] at q4;cases q4;rfl
 have l:=q5.look (f:=m)
 cases z:yR m o with
 |some d=>rw[z,if_neg (by simp)] at h5;exact h5.elim
 |none=>
  rw[z] at l h5
  rw[if_pos (by rfl)] at h5
  refine⟨_,q1,a,dx,vs,rfl,q2,l,F,τ,R.rv,?_⟩
  have hb:=h5.bind
  cases q:fs τ with
  |no=>rw[q] at hb;exact hb
  |ex c=>rw[q] at hb;exact hb
  |ok ds=>
   rw[q] at hb
   intro us F1 H1 x r
   have R1:=R.ext x
   obtain⟨a',p1,ob⟩:=R1.rv.ob.at_ i t c o h1
   obtain rfl:a'=a:=by rw[q1] at p1;cases p1;rfl
   rw[append_nil]
   refine⟨by rw[length_cons,← r.length,hfs τ ds q],a',[],us,[],ds,o,F1,rfl,rfl,ob,x.fh,R1.rv.tt,Reps.nil,r,?_⟩
   rw[nil_append]
   dsimp only [Ok] at hb
   cases z:g o ds with
   |ok p=>
    obtain⟨d,o'⟩:=p
    rw[z] at hb
    exact fun v F' H' xo ob' nw rep=>hb v F' H' (x.ff.trans xo.ff) (R1.meth h1 q1 xo ob' nw) rep
   |ex c=>rw[z] at hb;exact hb.elim
   |no=>rw[z] at hb;exact hb.elim
theorem Zq{g:Fs→List D→Rs (D×Fs)}{p1 apos:Pos}{pl:Sem Bool}(M:MetM X.prog X.w X.K X.mg X.base c m k n ps g)(hr:Room k X.A)(hx:PE X (.Name x p1) (wN i))(ha:PDA X (e::es) fs)(hfs:∀τ ds,fs τ=.ok ds→ds.length=n)
  (hst:starEach (e::es) X.env=(false,eval e X.env)::starEach es X.env:=by rfl) (hpl:(backTo pos (starEach es X.env)).any (·.1)=false:=by rfl)
  (ht:eval (.Call (.Attribute (.Name x p1) m apos) (e::es) [] pos) X.env=(do
   let ov ← eval (.Name x p1) X.env
   standAt apos.atName
   let (f,first) ← holding [ov] (getMethod ov m pl)
   callWith pos f first (backTo pos (starEach (e::es) X.env)) (backToKw pos (keywordEach [] X.env))):=by rfl) :
  VB X (.Call (.Attribute (.Name x p1) m apos) (e::es) [] pos) (xS i c m g fs):=by
 refine byc fun zG=>?_
 obtain⟨C,f,fd,hC,cl,hm,F,hb⟩:=M
 refine zG ?_
 exact PE.imp (TR hx cl hm F hr hb .nil (E:=E0) Z9 ha hst hpl ht) fun σ H Q h=>JI hC hfs h
theorem vE{g:Fs→List D→Rs (D×Fs)}{p1 apos:Pos}{pl:Sem Bool}(M:MetM X.prog X.w X.K X.mg X.base c m k 0 ps g)(hr:Room k X.A)(hx:PE X (.Name x p1) (wN i))
  (ht:eval (.Call (.Attribute (.Name x p1) m apos) [] [] pos) X.env=(do
   let ov ← eval (.Name x p1) X.env
   standAt apos.atName
   let (f,first) ← holding [ov] (getMethod ov m pl)
   callWith pos f first (backTo pos (starEach [] X.env)) (backToKw pos (keywordEach [] X.env))):=by rfl) :
  VB X (.Call (.Attribute (.Name x p1) m apos) [] [] pos) (xS i c m g zg):=by
 refine byc fun zG=>?_
 obtain⟨C,f,fd,hC,cl,hm,F,hb⟩:=M
 refine zG ?_
 refine PE.imp (Y2 hx cl hm F hr hb .nil (E:=E0) Z9 ht) fun σ H Q h=>?_
 refine byc fun zG=>?_
 obtain⟨v,h1,a,dx,vs,h2,h3,h4,h5⟩:=JI (n:=0) hC (fun τ ds h=>by cases h;rfl) h
 refine zG ?_
 exact⟨v,h1,a,dx,vs,h2,h3,h4,G2 h5⟩
noncomputable def ZV(gt:FT):j6:=fun τ=>(gt τ).bind fun b=>.ok (b,τ)
theorem Yy{gt:FT}(h:PDT X e gt):jO X e (ZV gt):=PT.imp h fun σ H Q z_=>by obtain⟨B,Z,F,τ,R,q⟩:=z_;exact tTs.of R.rv q.bind fun b F1 H1 g x _=>g F1 H1 x.ff (R.ext x)
noncomputable def oOp(op:D→D→Rs D)(fo:FOb)(fb:FE):FOb:=fun τ=>(fo τ).bind fun p=>(fb p.2).bind fun y=>(op p.1 y).bind fun z=>.ok (z,p.2)
theorem zd8{r:R2}{op:D→D→Rs D}(hl:∀F H x y dx dy Q,Same F H→Rep X.K F dx x→Rep X.K F dy y→Ok X (op dx dy) (Ev X.K F H Q)→r x y H Q)
  (σ:St) (H:Hp) (Q:VK) (h:tOb X (oOp op fo fb) σ H Q):tOp r (tOb X fo) (tE X fb) σ H Q:=by
 refine byc fun zG=>?_
 obtain⟨B,Z,F,τ,R,h⟩:=h
 refine zG ?_
 refine⟨B,Z,F,τ,R,h.bind.imp fun p g v F1 H1 f1 R1 r1=>?_⟩
 refine tE.at R1 g.bind fun y w F2 H2 g2 x2 R2 r2=>?_
 exact hl F2 H2 v w p.1 y Q R2.rv.fh (r1.mono x2.ff) r2 (g2.bind.imp fun z gz u F3 H3 x3 r3=>gz u F3 H3 (f1.trans (x2.ff.trans x3.ff)) (R2.ext x3) r3)
noncomputable def oB(f:FOb):j6:=fun τ=>(f τ).bind fun p=>match p.1 with
 |.bl b=>.ok (b,p.2)
 |_=>.no
theorem Y5{o:CmpOp}{op:D→D→Rs D}(ho:OpD X (compareOp o) op)(ha:VB X a fo)(hb:PDE X b fb)(hm:behindInMarks o b=false):jO X (.Compare a [o] [b] pos) (oB (oOp op fo fb)):=by
 obtain⟨r,h1,h2⟩:=ho
 refine(WX h1 ha hb hm).imp fun σ H Q h=>?_
 refine byc fun zG=>?_
 obtain⟨B,Z,F,τ,R,h⟩:=h
 refine zG ?_
 refine zd8 h2 σ H _ ⟨B,Z,F,τ,R,h.bind.imp fun p g v F1 H1 f1 R1 r1=>?_⟩
 obtain⟨d,τ'⟩:=p
 cases d with
 |bl k=>simp only[Rep] at r1;exact⟨k,r1,g F1 H1 f1 R1⟩
 |_=>exact g.elim
noncomputable def Xh(ga gb:j6):j6:=fun τ=>(ga τ).bind fun p=>if p.1=true then .ok (true,p.2) else gb p.2
theorem Zp(ha:jO X a ga):J5 X (.BoolOp .Or [a] pos) ga:=Go ha
theorem Yx(ha:jO X a ga)(hb:J5 X (.BoolOp .Or (b::rest) pos) gb):J5 X (.BoolOp .Or (a::b::rest) pos) (Xh ga gb):=
 PW.imp (LV ha hb) fun σ H Q ⟨B,Z,F,τ,R,h⟩=>⟨B,Z,F,τ,R,h.bind.imp fun p g F1 H1 f1 R1=>by
  obtain⟨k,τ'⟩:=p
  cases k with
  |false=>rw[if_neg (by simp)] at g ⊢;exact⟨B,Z,F1,τ',R1,g.imp fun p e F' H' f'=>e F' H' (f1.trans f')⟩
  |true=>rw[if_pos rfl] at g ⊢;exact g F1 H1 f1 R1⟩
theorem W2(h:J5 X e ga):jO X e ga:=PW.pt h
noncomputable def ZQ(gc:j6)(f g:FS):FS:=fun τ=>Fl.of (gc τ) fun p=>if p.1=true then f p.2 else g p.2
theorem Zm{s1 s2:List Stmt}{f g:FS}(hc:jO X e ga)(h1:vD X s1 f)(h2:vD X s2 g):PDS X (.If e s1 s2 pos) (ZQ ga f g):=
 PS.imp (LW hc h1 h2) fun E σ H ⟨B,Z,F,τ,R,h⟩=>⟨B,Z,F,τ,R,h.of.imp fun p q F1 H1 f1 R1=>by
  obtain⟨k,τ'⟩:=p
  cases k with
  |true=>rw[if_pos rfl] at q ⊢;exact⟨B,Z,F1,τ',R1,q.same f1⟩
  |false=>rw[if_neg (by simp)] at q ⊢;exact⟨B,Z,F1,τ',R1,q.same f1⟩⟩
noncomputable def xj(fo:FOb):FS:=fun τ=>Fl.of (fo τ) fun p=>.nx p.2
theorem wK(he:VB X e fo)(hs:swapsWith e none pos.line X.env=pure false:=by rfl):PDS X (.Expr e pos) (xj fo):=
 PS.imp (Yu he hs) fun E σ H z_=>by obtain⟨B,Z,F,τ,R,h⟩:=z_;exact⟨B,Z,F,τ,R,h.of.imp fun p q v F1 H1 f1 R1 r=>q σ F1 H1 f1 R1⟩
noncomputable def Wn(i:Nat)(fo:FOb):FS:=fun τ=>Fl.of (fo τ) fun p=>.nx (p.2.set i (some (.val p.1)))
theorem GG{pos':Pos}(hN:X.N.Nodup)(hi:X.N[i]?=some x)(hx:Loc X.env.scope x)(he:VB X e fo)(hs:swapsWith e (some (.Name x pos')) pos.line X.env=pure false:=by rfl)(hf:X.fn x=true∨X.env.scope.names.lookup x=some .local:=by first|exact .inl rfl|exact .inr rfl|assumption) :
  PDS X (.Assign [.Name x pos'] e pos) (Wn i fo):=
 PS.imp (YY hN hi hx he hs hf) fun E σ H z_=>by obtain⟨B,Z,F,τ,R,h⟩:=z_;exact⟨B,Z,F,τ,R,h.of.imp fun p q v F1 H1 f1 R1 r=>q _ F1 H1 f1 (R1.set r)⟩
noncomputable def xP(fe:FE):FS:=fun τ=>Fl.of (fe τ) fun d=>.ro d τ
theorem wB(he:PDE X e fe):PDS X (.Return (some e) pos) (xP fe):=
 PS.imp (WY he) fun E σ H z_=>by obtain⟨B,Z,F,τ,R,h⟩:=z_;exact tE.at R h.of fun d v F1 H1 g x R1 r=>g v σ F1 H1 x.ff R1 r
end
section
variable{X:Cx}{pos:Pos}{e a b:Expr}{es rest:List Expr}{fe fb:FE}{fs f1 f2:FA}{c m x y:Str}{i k n j:Nat}{ps:List Str}{fo:FOb}
noncomputable def tAm(X:Cx)(i:Nat)(f1 f2:FA):TA:=fun σ H Q=>∃F τ v,RV X.K F τ σ H∧σ[i]?=some (some v)∧Ok X (f1 τ) fun ds1=>Ok X (f2 τ) fun ds2=>∀us1 us2 F' H',Ext F H F' H'→Reps X.K F' ds1 us1→Reps X.K F' ds2 us2→Q (us1++v::us2) H'
noncomputable def PDM(X:Cx)(es:List Expr)(i:Nat)(f1 f2:FA):Prop:=PA X es (tAm X i f1 f2)
theorem yL{p1:Pos}(hx:PE X (.Name x p1) (wN i))(hr:PDA X es fs)(hs:starEach (.Name x p1::es) X.env=(false,eval (.Name x p1) X.env)::starEach es X.env:=by rfl):PDM X (.Name x p1::es) i zg fs:=
 PA.imp (vz hx hr hs) fun σ H Q z_=>by
  refine byc fun zG=>?_
  obtain⟨F,τ,v,R,hv,h⟩:=z_
  refine zG ?_
  refine⟨v,hv,F,τ,R,?_⟩
  have h:Ok X (fs τ) fun ds2=>∀us1 us2 F' H',Ext F H F' H'→Reps X.K F' [] us1→Reps X.K F' ds2 us2→Q (us1++v::us2) H':=h
  exact h.imp fun ds2 g us F' H' x r=>g [] us F' H' x Reps.nil r
theorem uf(he:PDE X e fe)(hr:PDM X es i f1 f2)(hs:starEach (e::es) X.env=(false,eval e X.env)::starEach es X.env:=by rfl):PDM X (e::es) i (za fe f1) f2:=
 PA.imp (vz he hr hs) fun σ H Q ⟨F,τ,v,R,hv,h⟩=>tE.of R (Ok.bind h) fun d u F1 H1 g x R1 r=>
  ⟨F1,τ,v,R1,hv,(Ok.bind g).imp fun ds1 g1=>by
   have g1:Ok X (f2 τ) fun ds2=>∀us1 us2 F' H',Ext F H F' H'→Reps X.K F' (d::ds1) us1→Reps X.K F' ds2 us2→Q (us1++v::us2) H':=g1
   exact g1.imp fun ds2 g2 us1 us2 F' H' x2 r1 r2=>g2 (u::us1) us2 F' H' (x.trans x2) (Reps.cons (r.mono x2.ff) r1) r2⟩
noncomputable def vW(i:Nat)(c:Str)(g:Fs→List D→Rs (D×Fs))(f1 f2:FA):FOb:=fun τ=>(uw τ i c).bind fun p=>(f1 τ).bind fun ds1=>(f2 τ).bind fun ds2=>match g p.2 (ds1++ds2) with
 | .ok (d,o')=>.ok (d,τ.set i (some (.obj p.1 c o')))
 |_=>.no
theorem Zr{g:Fs→List D→Rs (D×Fs)}{p:Pos}(D:DefM X.prog X.w X.K X.mg X.base y c k j n ps g)(hr:Room k X.A)(ha:PDM X (e::es) i f1 f2)(hl1:∀τ ds,f1 τ=.ok ds→ds.length=j)(hl2:∀τ ds,f2 τ=.ok ds→j+ds.length=n)(hg:Gl X y:=by rfl)(hdb:(y==("__debug__" : Str))=false:=by decide)
  (he:starEach (e::es) X.env=(false,eval e X.env)::starEach es X.env:=by rfl) (hpl:(backTo pos (starEach es X.env)).any (·.1)=false:=by rfl):VB X (.Call (.Name y p) (e::es) [] pos) (vW i c g f1 f2):=by
 refine byc fun zG=>?_
 obtain⟨f,fd,F,hb,hk,hm⟩:=D
 refine zG ?_
 refine PE.imp (W0 F hr hg hm hk hb .nil (E:=E0) Z9 ha hdb he hpl) fun σ H Q z_=>?_
 refine byc fun zG=>?_
 obtain⟨B,Z,Fz,τ,R,h⟩:=z_
 obtain⟨t,o,h1,h5⟩:=ju (X:=X) (Ok.bind h)
 dsimp only at h5
 obtain⟨a,q1,C',dx,vs,q2,q3,q4,q5,q6⟩:=R.rv.ob.at_ i t c o h1
 refine zG ?_
 refine⟨Fz,τ,.ref a,R.rv,q1,?_⟩
 have hb:=Ok.bind h5
 cases e1:f1 τ with
 |no=>rw[e1] at hb;exact hb
 |ex c=>rw[e1] at hb;exact hb
 |ok ds1=>
  rw[e1] at hb
  have hb2:Ok X ((f2 τ).bind fun ds2=>match g o (ds1++ds2) with
   | .ok (d,o')=>.ok (d,τ.set i (some (.obj t c o')))
   |_=>.no) fun p=>∀v F' H',Same Fz F'→RS X.K B Z F' p.2 σ H'→Rep X.K F' p.1 v→Q v H':=hb
  have hb:=Ok.bind hb2
  show Ok X (f2 τ) _
  cases e2:f2 τ with
  |no=>rw[e2] at hb;exact hb
  |ex c=>rw[e2] at hb;exact hb
  |ok ds2=>
   rw[e2] at hb
   intro us1 us2 F1 H1 x r1 r2
   have R1:=R.ext x
   obtain⟨a',p1,ob⟩:=R1.rv.ob.at_ i t c o h1
   obtain rfl:a'=a:=by rw[q1] at p1;cases p1;rfl
   rw[append_nil]
   have l1:=hl1 τ ds1 e1
   have l2:=hl2 τ ds2 e2
   refine⟨by rw[length_append,length_cons,← r1.length,← r2.length];lia,a',us1,us2,ds1,ds2,o,F1,rfl,by rw[← r1.length];exact l1,ob,x.fh,R1.rv.tt,r1,r2,?_⟩
   dsimp only [Ok] at hb
   cases z:g o (ds1++ds2) with
   |ok p=>
    obtain⟨d,o'⟩:=p
    rw[z] at hb
    exact fun v F' H' xo ob' nw rep=>hb v F' H' (x.ff.trans xo.ff) (R1.meth h1 q1 xo ob' nw) rep
   |ex c=>rw[z] at hb;exact hb.elim
   |no=>rw[z] at hb;exact hb.elim
noncomputable def wC(i:Nat)(c:Str)(g:Fs→List D→Rs D)(f1 f2:FA):FE:=fun τ=>(jG τ i c).bind fun o=>(f1 τ).bind fun ds1=>(f2 τ).bind fun ds2=>Vd (g o (ds1++ds2))
theorem xR{g:Fs→List D→Rs D}{p:Pos}(D:DefR X.prog X.w X.K X.mg X.base y c k j n ps g)(hr:Room k X.A)(ha:PDM X (e::es) i f1 f2)(hl1:∀τ ds,f1 τ=.ok ds→ds.length=j)(hl2:∀τ ds,f2 τ=.ok ds→j+ds.length=n)(hg:Gl X y:=by rfl)(hdb:(y==("__debug__" : Str))=false:=by decide)
  (he:starEach (e::es) X.env=(false,eval e X.env)::starEach es X.env:=by rfl) (hpl:(backTo pos (starEach es X.env)).any (·.1)=false:=by rfl):PDE X (.Call (.Name y p) (e::es) [] pos) (wC i c g f1 f2):=by
 refine byc fun zG=>?_
 obtain⟨f,fd,F,hb,hk,hm⟩:=D
 refine zG ?_
 refine PE.imp (W0 F hr hg hm hk hb .nil (E:=E0) Z9 ha hdb he hpl) fun σ H Q z_=>?_
 refine byc fun zG=>?_
 obtain⟨Fz,τ,R,h⟩:=z_
 obtain⟨o,a,C,dx,vs,h1,h2,h3,h4,h5⟩:=Zw R (Ok.bind h)
 refine zG ?_
 refine⟨Fz,τ,.ref a,R,h1,?_⟩
 have hb:=Ok.bind h5
 cases e1:f1 τ with
 |no=>rw[e1] at hb;exact hb
 |ex c=>rw[e1] at hb;exact hb
 |ok ds1=>
  rw[e1] at hb
  have hb2:Ok X ((f2 τ).bind fun ds2=>Vd (g o (ds1++ds2))) (Ev X.K Fz H Q):=hb
  have hb:=Ok.bind hb2
  show Ok X (f2 τ) _
  cases e2:f2 τ with
  |no=>rw[e2] at hb;exact hb
  |ex c=>rw[e2] at hb;exact hb
  |ok ds2=>
   rw[e2] at hb
   intro us1 us2 F1 H1 x r1 r2
   rw[append_nil]
   have l1:=hl1 τ ds1 e1
   have l2:=hl2 τ ds2 e2
   refine⟨by rw[length_append,length_cons,← r1.length,← r2.length];lia,a,us1,us2,ds1,ds2,o,F1,C,dx,vs,rfl,by rw[← r1.length];exact l1,x.hh _ _ h2,h3,h4.keep x.ff fun l ws _ e3 e4=>⟨x.hh _ _ e3,?_⟩,x.fh,x.tt R.tt,r1,r2,?_⟩
   ·cases w:F1 l with
    |none=>rfl
    |some u=>
     rcases x.nw l u w with z|z
     ·rw[e4] at z;cases z
     ·rw[e3] at z;cases z
   ·have hb:Ok X (Vd (g o (ds1++ds2))) (Ev X.K Fz H Q):=hb
    cases z:g o (ds1++ds2) with
    |ok d=>rw[z] at hb;exact Ev.ext hb x
    |ex c=>rw[z] at hb;exact hb.elim
    |no=>rw[z] at hb;exact hb.elim
omit [Tabs] in
theorem Wp{K:Frag}{F:Hp}:∀(n:Nat) {ds:List D} {ws:List V},Reps K F ds ws→Reps K F (ds.take n) (ws.take n)
 |0,_,_,_=>by rw[List.take_zero,List.take_zero];exact Reps.nil
 |n+1,[],ws,r=>by
  simp only[Reps] at r
  subst r
  exact Reps.nil
 |n+1,d::ds,ws,r=>by
  simp only[Reps] at r
  refine byc fun zG=>?_
  obtain⟨v,t,rfl,r1,r2⟩:=r
  refine zG ?_
  exact Reps.cons r1 (Wp n r2)
omit [Tabs] in
theorem Qg{K:Frag}{F:Hp}{ds:List D}{ws:List V}(r:Reps K F ds ws):Reps K F ds.dropLast ws.dropLast:=by
 rw[List.dropLast_eq_take,List.dropLast_eq_take,r.length]
 exact Wp _ r
end
theorem RS.setObj{K:Frag}{B Z F1 F H1 H:Hp}{τ:DS}{σ:St}{i:Nat}{c:Str}{fs:Fs}{a:Addr}(R1:RS K B Z F1 τ σ H1)(ex:Ext F1 H1 F H)(ob:We K F H c fs a)(ha:H1 a=none)(hf:∀l∈Lof H c a,H1 l=none) :
  RS K B Z F (τ.set i (some (.obj 0 c fs))) (σ.set i (some (.ref a))) H:=by
 have R:=R1.ext ex
 have len:=R.rv.len
 have lt:∀{j:Nat} {s:Option Sl},(τ.set i (some (.obj 0 c fs)))[j]?=some s→(i=j∧s=some (.obj 0 c fs)∧(σ.set i (some (.ref a)))[j]?=some (some (.ref a)))∨(i≠j∧τ[j]?=some s∧(σ.set i (some (.ref a)))[j]?=σ[j]?):=fun {j s} h=>by
  by_cases e:i=j
  ·subst e
   have hl:i<τ.length:=by
    rcases lt_or_ge i τ.length with z|z
    ·exact z
    ·rw[List.getElem?_eq_none_iff.mpr (by simpa using z)] at h;cases h
   rw[getElem?_set_self hl] at h;cases h
   exact .inl ⟨rfl,rfl,getElem?_set_self (by rw[← len];exact hl)⟩
  ·rw[getElem?_set_ne e] at h
   exact .inr ⟨e,h,getElem?_set_ne e⟩
 have ltS:∀{j:Nat} {c':Str},ObS (τ.set i (some (.obj 0 c fs)))[j]? c'→(i=j∧c'=c∧(σ.set i (some (.ref a)))[j]?=some (some (.ref a)))∨(i≠j∧ObS τ[j]? c'∧(σ.set i (some (.ref a)))[j]?=σ[j]?):=fun {j c'} h=>by
  rcases h with ⟨m,gs,h⟩|⟨gs,h⟩
  ·rcases lt h with ⟨e,z,q⟩|⟨e,z,q⟩
   ·cases z;exact .inl ⟨e,rfl,q⟩
   ·exact .inr ⟨e,.inl ⟨m,gs,z⟩,q⟩
  ·rcases lt h with ⟨e,z,q⟩|⟨e,z,q⟩
   ·cases z
   ·exact .inr ⟨e,.inr ⟨gs,z⟩,q⟩
 have old:∀{j:Nat} {c':Str} {b:Addr},ObS τ[j]? c'→σ[j]?=some (some (.ref b))→b≠a∧∀l∈Lof H c' b,H1 l≠none:=fun {j c' b} h e=>by
  refine byc fun zG=>?_
  obtain⟨b',C,dx,vs,gs,h1,h2,h3⟩:=R1.rv.ob.get h
  refine zG ?_
  rw[e] at h1;cases h1
  refine⟨fun z=>(by subst z;rw[ha] at h2;cases h2),fun l hl z=>?_⟩
  rw[Lof.ins (ex.hh _ _ h2:H b=some (.ins C dx vs))] at hl
  obtain⟨_,ws,q⟩:=h3.own hl
  rw[z] at q;cases q
 refine⟨⟨R.rv.fh,by simp[len],fun j d h=>?_,fun j ds h=>?_,fun j k ds es b hjk h1 h2 h3 h4=>?_,R.rv.tt,⟨fun j m c1 g h=>?_,fun j k m c1 c2 g1 b hjk h1 h2 h3 h4=>?_,fun j c1 g h=>?_,fun j k m c1 c2 g1 b b' l hjk h1 h2 h3 h4 h5 h6=>?_,fun j k c1 ds b l h1 h2 h3 h4 h5=>?_⟩⟩,R.bh,R.zf,R.nb,fun j ds b h1 h2=>?_,fun j m c1 g b h1 h2=>?_,fun a0 dx b1 b2 j m c1 g h=>?_,fun j c1 g b h1 h2=>?_⟩
 ·rcases lt h with ⟨_,z,_⟩|⟨_,z,q⟩
  ·cases z
  ·rw[q];exact R.rv.val j d z
 ·rcases lt h with ⟨_,z,_⟩|⟨_,z,q⟩
  ·cases z
  ·rw[q];exact R.rv.own j ds z
 ·rcases lt h1 with ⟨_,z,_⟩|⟨_,z1,q1⟩
  ·cases z
  ·rcases lt h2 with ⟨_,z,_⟩|⟨_,z2,q2⟩
   ·cases z
   ·rw[q1] at h3;rw[q2] at h4
    exact R.rv.dis j k ds es b hjk z1 z2 h3 h4
 ·rcases lt h with ⟨_,z,q⟩|⟨_,z,q⟩
  ·cases z;exact⟨a,q,ob⟩
  ·rw[q];exact R.rv.ob.at_ j m c1 g z
 ·rcases lt h1 with ⟨e1,z,q1⟩|⟨_,z1,q1⟩
  ·rw[q1] at h3;cases h3
   rcases ltS h2 with ⟨e2,_,_⟩|⟨_,z2,q2⟩
   ·exact hjk (e1.symm.trans e2)
   ·rw[q2] at h4;exact(old z2 h4).1 rfl
  ·rw[q1] at h3
   rcases ltS h2 with ⟨_,_,q2⟩|⟨_,z2,q2⟩
   ·rw[q2] at h4;cases h4
    exact(old (.inl ⟨m,g1,z1⟩) h3).1 rfl
   ·rw[q2] at h4
    exact R.rv.ob.dis j k m c1 c2 g1 b hjk z1 z2 h3 h4
 ·rcases lt h with ⟨_,z,q⟩|⟨_,z,q⟩
  ·cases z
  ·refine byc fun zG=>?_
   obtain⟨a',C,dx,vs,r⟩:=R.rv.ob.rd j c1 g z
   refine zG ?_
   exact⟨a',C,dx,vs,by rw[q];exact r.1,r.2⟩
 ·rcases lt h1 with ⟨e1,z,q1⟩|⟨_,z1,q1⟩
  ·cases z
   rw[q1] at h3;cases h3
   rcases ltS h2 with ⟨e2,_,_⟩|⟨_,z2,q2⟩
   ·exact hjk (e1.symm.trans e2)
   ·rw[q2] at h4;exact(old z2 h4).2 l h6 (hf l h5)
  ·rw[q1] at h3
   rcases ltS h2 with ⟨_,ec,q2⟩|⟨_,z2,q2⟩
   ·subst ec
    rw[q2] at h4;cases h4
    exact(old (.inl ⟨m,g1,z1⟩) h3).2 l h5 (hf l h6)
   ·rw[q2] at h4
    exact R.rv.ob.ll j k m c1 c2 g1 b b' l hjk z1 z2 h3 h4 h5 h6
 ·rcases lt h2 with ⟨_,z,_⟩|⟨_,z2,q2⟩
  ·cases z
  ·rw[q2] at h4
   rcases ltS h1 with ⟨_,ec,q1⟩|⟨_,z1,q1⟩
   ·subst ec
    rw[q1] at h3;cases h3
    refine byc fun zG=>?_
    obtain⟨p,ws,g1,g2,_⟩:=R1.rv.own k ds z2
    refine zG ?_
    rw[h4] at g1;cases g1
    rw[hf l h5] at g2;cases g2
   ·rw[q1] at h3
    exact R.rv.ob.lo j k c1 ds b l z1 z2 h3 h4 h5
 ·rcases lt h1 with ⟨_,z,_⟩|⟨_,z,q⟩
  ·cases z
  ·rw[q] at h2;exact R.ob j ds b z h2
 ·rcases lt h1 with ⟨_,z,q⟩|⟨_,z,q⟩
  ·cases z
   rw[q] at h2;cases h2
   exact⟨xJ R1.bh ha,fun l hl=>xJ R1.bh (hf l hl)⟩
  ·rw[q] at h2;exact R.oo j m c1 g b z h2
 ·rcases lt h with ⟨_,z,_⟩|⟨_,z,q⟩
  ·cases z
  ·rw[q];exact R.sf a0 dx b1 b2 j m c1 g z
 ·rcases lt h1 with ⟨_,z,_⟩|⟨_,z,q⟩
  ·cases z
  ·rw[q] at h2;exact R.ro j c1 g b z h2
noncomputable def Zd(i:Nat)(c:Str)(g:Fs→List D→Rs (D×Fs))(fs:FA):FS:=fun τ=>Fl.of (fs τ) fun ds=>match g [] ds with
 | .ok (.non,o)=>.nx (τ.set i (some (.obj 0 c o)))
 |_=>.no
section
variable{X:Cx}{pos:Pos}{e:Expr}{es:List Expr}{fs:FA}{c x:Str}{i k n:Nat}{ps:List Str}
theorem Le{C:Addr}{g:Fs→List D→Rs (D×Fs)}(hC:nsIn X.K mainGlobals c=some (some (.ref C)))(hfs:∀τ ds,fs τ=.ok ds→ds.length=n){σ:St}{H B Z F:Hp}{τ:DS}{E:VE}(R:RS X.K B Z F τ σ H)(h:Post X B Z F E (Zd i c g fs τ)) :
  LS C (spM X.K c 0 n g) [] E0 (tAs X fs) σ H fun v H'=>E.nx (σ.set i (some v)) H':=by
 have hb:=Post.of h
 refine⟨F,τ,R.rv,?_⟩
 cases q:fs τ with
 |no=>rw[q] at hb;exact hb
 |ex c=>rw[q] at hb;exact hb
 |ok ds=>
  rw[q] at hb
  intro us F1 H1 x r y dx hy hdx hne
  have R1:=R.ext x
  have hFy:=zX x.fh hy
  rw[append_nil]
  have hk:∀{b:Addr} {u:HO},H1 b=some u→upd (upd H1 dx (.own y)) y (.ins C dx []) b=some u:=fun {b u} e=>by
   rw[zr (zR e hy),zr (zR e hdx)];exact e
  have hD:upd (upd H1 dx (.own y)) y (.ins C dx []) dx=some (.own y):=by rw[zr hne,zB]
  have hL:Lof (upd (upd H1 dx (.own y)) y (.ins C dx [])) c y=[]:=by rw[Lof.ins zB];rfl
  refine⟨by rw[length_cons,← r.length,hfs τ ds q],y,[],us,[],ds,[],F1,rfl,rfl,⟨C,dx,[],zB,hFy,hC,trivial,hD,by show([]:List Addr).Nodup;exact List.nodup_nil⟩,fun b u e=>hk (x.fh b u e),⟨fun t ht=>?_,fun d b e=>?_⟩,Reps.nil,r,?_⟩
  ·obtain⟨t1,t2⟩:=R1.rv.tt.1 t ht
   refine⟨t1,?_⟩
   rcases t2 with z|⟨c',z,z2⟩
   ·exact .inl (hk z)
   ·exact .inr ⟨c',hk z,hk z2⟩
  ·by_cases zd:d=dx
   ·subst zd;rw[hD] at e;cases e;exact⟨C,d,[],zB⟩
   ·by_cases zy:d=y
    ·subst zy;rw[zB] at e;cases e
    ·rw[zr zy,zr zd] at e
     refine byc fun zG=>?_
     obtain⟨C',dx',vs,h⟩:=R1.rv.tt.2 d b e
     refine zG ?_
     exact⟨C',dx',vs,hk h⟩
  ·rw[nil_append]
   dsimp only [Ok] at hb
   cases z:g [] ds with
   |ex c=>rw[z] at hb;exact hb.elim
   |no=>rw[z] at hb;exact hb.elim
   |ok p=>
    obtain⟨d,o⟩:=p
    rw[z] at hb
    cases d with
    |non=>
     dsimp only at hb
     intro v F' H' xo ob nw rep
     simp only[Rep] at rep
     refine⟨rep,?_⟩
     have hF':F' y=none:=by obtain⟨_,_,_,_,h,_⟩:=ob;exact h
     have ex:Ext F1 H1 F' H':=⟨xo.ff,Hh.trans (fun b u e=>.of (by rw[ZA (zR e hy) (by rw[hL];simp)];exact hk e)) xo.hh,xo.fh,fun b u e=>by
      rcases xo.nw b u e with z|z
      ·exact .inl z
      ·rcases jY z with z|z|z
       ·subst z;rw[hF'] at e;cases e
       ·rw[hL] at z;cases z
       ·by_cases n:b=y
        ·subst n;rw[zB] at z;cases z
        ·rw[zr n] at z
         by_cases n2:b=dx
         ·subst n2;rw[zB] at z;cases z
         ·rw[zr n2] at z;exact .inr z,fun _=>xo.tt⟩
     refine hb _ F' H' (x.ff.trans xo.ff) (R1.setObj ex ob hy fun l hl=>?_)
     rcases nw l hl with z|z
     ·rw[hL] at z;cases z
     ·by_cases n:l=y
      ·subst n;exact hy
      ·rw[zr n] at z
       by_cases n2:l=dx
       ·subst n2;exact hdx
       ·rw[zr n2] at z;exact z
    |_=>exact hb.elim
theorem VY{g:Fs→List D→Rs (D×Fs)}{p1 pos' cpos:Pos}(M:ClsM X.prog X.w X.K X.mg X.base c k n ps g)(hr:Room (k+1) X.A)(hg:Gl X c)(ha:PDA X (e::es) fs)(hfs:∀τ ds,fs τ=.ok ds→ds.length=n)
  (hN:X.N.Nodup) (hi:X.N[i]?=some x) (hx:Loc X.env.scope x) (hdb:(c==("__debug__" : Str))=false:=by decide) (hst:starEach (e::es) X.env=(false,eval e X.env)::starEach es X.env:=by rfl) (hpl:(backTo cpos (starEach es X.env)).any (·.1)=false:=by rfl)
  (hs:swapsWith (.Call (.Name c p1) (e::es) [] cpos) (some (.Name x pos')) pos.line X.env=pure false:=by rfl) (hf:X.fn x=true∨X.env.scope.names.lookup x=some .local:=by first|exact .inl rfl|exact .inr rfl|assumption) :
  PDS X (.Assign [.Name x pos'] (.Call (.Name c p1) (e::es) [] cpos) pos) (Zd i c g fs):=by
 refine byc fun zG=>?_
 obtain⟨C,f,fd,hC,hm,M,F,hb⟩:=M
 refine zG ?_
 exact PS.imp (YY hN hi hx (TU M F hr hg hm hb .nil (E:=E0) Z9 ha hdb hst hpl) hs hf) fun E σ H z_=>by obtain⟨B,Z,F,τ,R,h⟩:=z_;exact Le hC hfs R h
end
structure ClsAt(K:Frag)(mg:Str→Option Value)(c:Str)(C:Addr):Prop where
 ns:nsIn K mainGlobals c=some (some (.ref C))
 cls:Cls K C
 at_:mg c=some (.ref C)
section
variable{P:Program}{w:World}{K:Frag}{mg:Str→Option Value}{base:Heap}
theorem MetM.mk{c m qual:Str}{C:Addr}{st:Stmt}{f:Addr}{fd:FuncData}{N ps:List Str}{k n:Nat}{fb:FS}(A:ClsAt K mg c C)(hm:uM K C m f)(D:Fun K m qual st f fd)(S:zD N ps (zi st))(hn:ps.length=n+1)
  (hb:∀(kV doc pm:Value) (an:Option Addr) (cdv ct:Value) (us:List Value),us.length=ps.length→bindArgs (fnOf m qual (zE st) (zt st) (zi st) .none kV doc pm an cdv ct) ⟨us,[]⟩=pure (ps.zip us))
  (hbody:∀(cdv:Value) (A:Around) (outer:List Env) (s:Shared) (H:Hp) (E:XK),Room k (A.deeper (envOfC qual (zi st) s.heap.objs.size f cdv)) →
   vD (uS CX0 P w K mg base N qual (zi st) f cdv A outer s H E).nox (zt st) fb):MetM P w K mg base c m (k+1) n ps (vy N.length 0 c fb):=
 ⟨C,f,fd,A.ns,A.cls,hm,fnM D S hn hbody,D.binds hb⟩
theorem MetR.mk{c m qual:Str}{C:Addr}{st:Stmt}{f:Addr}{fd:FuncData}{N ps:List Str}{k n:Nat}{fb:FS}(A:ClsAt K mg c C)(hm:uM K C m f)(D:Fun K m qual st f fd)(S:zD N ps (zi st))(hn:ps.length=n+1)
  (hb:∀(kV doc pm:Value) (an:Option Addr) (cdv ct:Value) (us:List Value),us.length=ps.length→bindArgs (fnOf m qual (zE st) (zt st) (zi st) .none kV doc pm an cdv ct) ⟨us,[]⟩=pure (ps.zip us))
  (hbody:∀(cdv:Value) (A:Around) (outer:List Env) (s:Shared) (H:Hp) (E:XK),Room k (A.deeper (envOfC qual (zi st) s.heap.objs.size f cdv)) →
   vD (uS CX0 P w K mg base N qual (zi st) f cdv A outer s H E).nox (zt st) fb):MetR P w K mg base c m (k+1) n ps (Ze N.length 0 c fb):=
 ⟨C,f,fd,A.ns,A.cls,hm,fnR D S hn hbody,D.binds hb⟩
theorem ClsM.mk{c qual:Str}{C:Addr}{st:Stmt}{f:Addr}{fd:FuncData}{N ps:List Str}{k n:Nat}{fb:FS}(A:ClsAt K mg c C)(hm:Mk K C f)(D:Fun K "__init__" qual st f fd)(S:zD N ps (zi st))(hn:ps.length=n+1)
  (hb:∀(kV doc pm:Value) (an:Option Addr) (cdv ct:Value) (us:List Value),us.length=ps.length→bindArgs (fnOf "__init__" qual (zE st) (zt st) (zi st) .none kV doc pm an cdv ct) ⟨us,[]⟩=pure (ps.zip us))
  (hbody:∀(cdv:Value) (A:Around) (outer:List Env) (s:Shared) (H:Hp) (E:XK),Room k (A.deeper (envOfC qual (zi st) s.heap.objs.size f cdv)) →
   vD (uS CX0 P w K mg base N qual (zi st) f cdv A outer s H E).nox (zt st) fb):ClsM P w K mg base c (k+1) n ps (vy N.length 0 c fb):=
 ⟨C,f,fd,A.ns,A.at_,hm,fnM D S hn hbody,D.binds hb⟩
theorem DefM.mk{x c:Str}{st:Stmt}{f:Addr}{fd:FuncData}{N ps:List Str}{k n j:Nat}{fb:FS}(D:zV K mg x st f fd)(S:zD N ps (zi st))(hn:ps.length=n+1)
  (hb:∀(kV doc pm:Value) (an:Option Addr) (cdv ct:Value) (us:List Value),us.length=ps.length→bindArgs (fnOf x x (zE st) (zt st) (zi st) .none kV doc pm an cdv ct) ⟨us,[]⟩=pure (ps.zip us))
  (hbody:∀(cdv:Value) (A:Around) (outer:List Env) (s:Shared) (H:Hp) (E:XK),Room k (A.deeper (envOfC x (zi st) s.heap.objs.size f cdv)) →
   vD (uS CX0 P w K mg base N x (zi st) f cdv A outer s H E).nox (zt st) fb):DefM P w K mg base x c (k+1) j n ps (vy N.length j c fb):=
 ⟨f,fd,fnM D.fn S hn hbody,D.fn.binds hb,D.fn.kp,D.at_⟩
theorem DefR.mk{x c:Str}{st:Stmt}{f:Addr}{fd:FuncData}{N ps:List Str}{k n j:Nat}{fb:FS}(D:zV K mg x st f fd)(S:zD N ps (zi st))(hn:ps.length=n+1)
  (hb:∀(kV doc pm:Value) (an:Option Addr) (cdv ct:Value) (us:List Value),us.length=ps.length→bindArgs (fnOf x x (zE st) (zt st) (zi st) .none kV doc pm an cdv ct) ⟨us,[]⟩=pure (ps.zip us))
  (hbody:∀(cdv:Value) (A:Around) (outer:List Env) (s:Shared) (H:Hp) (E:XK),Room k (A.deeper (envOfC x (zi st) s.heap.objs.size f cdv)) →
   vD (uS CX0 P w K mg base N x (zi st) f cdv A outer s H E).nox (zt st) fb):DefR P w K mg base x c (k+1) j n ps (Ze N.length j c fb):=
 ⟨f,fd,fnR D.fn S hn hbody,D.fn.binds hb,D.fn.kp,D.at_⟩
end
noncomputable def ItH(K:Frag)(J:It)(F1 H1:Hp)(ds:List D):Prop:=∀(i:Nat) (F H:Hp),Same F1 F→Same F H→Hh H1 H →
 (ds.length≤i→J.stop i H)∧∀d,ds[i]?=some d→J.go i H∧∀x H',J.yld i H x H'→∃F',Ext F H F' H'∧Rep K F' d x
noncomputable def tIh(X:Cx)(f:FA):TI:=fun σ H R=>∃F τ,RV X.K F τ σ H∧Ok X (f τ) fun ds=>∀J F1 H1,Ext F H F1 H1→ItH X.K J F1 H1 ds→R J H1
noncomputable def M9(X:Cx)(tg iter:Expr)(f:FA):Prop:=PI X tg iter (tIh X f)
theorem PDI.h{X:Cx}{tg e:Expr}{f:FA}(h:PDI X tg e f):M9 X tg e f:=PI.imp h fun σ H R z_=>by obtain⟨F,τ,Rv,q⟩:=z_;exact⟨F,τ,Rv,q.imp fun ds g J F1 H1 x io=>g J F1 H1 x fun i F H a b _=>io i F H a b⟩
section
variable{X:Cx}{scope:Scope}{tn fr:List Str}{idx:List Nat}{tg iter elt:Expr}{ifs:List Expr}{pos:Pos}{fi:FA}{set:FG}{ft:FT}{fe:FE}
theorem jZ(so:WN set){Y:Cx}(hK:Y.K=X.K)(σ:St)(H:Hp)(Q:VK)(h:tFr X (wZ tn.length idx fi set ft fe) σ H Q):Q5 (uq tn.length idx) (tIh X fi) (tG Y set) (tTs Y ft) (tE Y fe) σ H Q:=by
 refine byc fun zG=>?_
 obtain⟨F,τ,R,h⟩:=h
 refine zG ?_
 refine⟨F,τ,R,h.bind.imp fun ds gds J F1 H1 x io=>fun acc hacc=>?_⟩
 cases q:uo set ft fe (v6 tn.length idx τ) ds with
 |no=>rw[q] at gds;exact gds.elim
 |ex c=>rw[q] at gds;exact gds.elim
 |ok xs=>
  rw[q] at gds
  obtain⟨hz,k⟩:=yY gds
  have R1:=R.ext x
  have hF1:F1 acc=none:=zX x.fh hacc
  refine⟨fun i m σ1 Hc=>m=ds.length-i∧i≤ds.length∧∃F2 Hm τ1 dn rs vs,CWH X.K set ft fe (v6 tn.length idx τ) ds xs F1 H1 acc i σ1 Hc F2 Hm τ1 dn rs vs,⟨ds.length,by simp,zero_le _,F1,H1,_,[],xs,[],Ext.refl x.fh,hacc,rfl,Reps.nil,?_,uz _ _ _,fun _=>rfl,q,rfl⟩,?_⟩
  ·exact(Tu tn.length idx R1).free_upd (uz _ _ _) hacc hF1 (.inl hacc)
  rintro i m σ1 Hc ⟨rfl,hi,F2,Hm,τ1,dn,rs,vs,x2,hm,rfl,r2,R2,n2,so2,cl,ex⟩
  obtain⟨i1,i2⟩:=io i F2 _ x2.ff R2.rv.fh (x2.hh.trans (.of (yr hm)))
  by_cases hlt:i<ds.length
  ·have hd:ds.drop i=ds[i]::ds.drop (i+1):=drop_eq_getElem_cons hlt
   rw[hd,uo] at cl
   obtain⟨go,yl⟩:=i2 ds[i] (by simp[hlt])
   refine .inr ⟨go,fun y H' yy=>?_⟩
   obtain⟨F3,x3,r3⟩:=yl y H' yy
   refine⟨F3,τ1,ds[i],by rw[hK];exact(R2.ext x3).rv,by rw[hK];exact r3,?_⟩
   rw[so2]
   cases e1:set ds[i] (v6 tn.length idx τ) with
   |no=>rw[e1] at cl;cases cl
   |ex c=>rw[e1] at cl;cases cl
   |ok τ2=>
    rw[e1] at cl
    simp only at cl
    intro σ2 _ RR _
    rw[hK] at RR
    have RR:=RR _ _ (R2.ext x3)
    have n3:=so.no _ _ _ e1 (uz _ _ _)
    have so3:∀d,set d τ2=set d (v6 tn.length idx τ):=fun d=>so.ov d _ _ _ e1
    cases e2:ft τ2 with
    |no=>rw[e2] at cl;cases cl
    |ex c=>rw[e2] at cl;cases cl
    |ok b=>
     rw[e2] at cl
     refine⟨F3,τ2,by rw[hK];exact RR.rv,?_⟩
     rw[e2]
     intro F4 H4 x4
     have x34:=x3.trans x4
     cases b with
     |false=>
      simp only at cl
      rw[if_neg (by simp)]
      obtain⟨y1,y2⟩:=XF x2 hm x34
      have ha:H4 acc=some (.lst vs):=x34.hh acc _ zB
      have eH:H4=upd (vk H4 acc) acc (.lst vs):=by
       rw[YN];funext b;unfold upd;split
       ·rename_i z;subst z;exact ha
       ·rfl
      refine⟨ds.length-(i+1),by lia,rfl,hlt,F4,vk H4 acc,τ2,dn,rs,vs,y1,jb _ _,eH,r2.mono x34.ff,RR.ext x4,n3,so3,cl,ex⟩
     |true=>
      simp only at cl
      rw[if_pos rfl]
      cases e3:fe τ2 with
      |no=>rw[e3] at cl;cases cl
      |ex c=>rw[e3] at cl;cases cl
      |ok z=>
       rw[e3] at cl
       simp only at cl
       cases e4:uo set ft fe (v6 tn.length idx τ) (ds.drop (i+1)) with
       |no=>rw[e4] at cl;cases cl
       |ex c=>rw[e4] at cl;cases cl
       |ok rs'=>
        rw[e4] at cl
        have ers:z::rs'=rs:=by simpa using cl
        refine⟨F4,τ2,by rw[hK];exact(RR.ext x4).rv,?_⟩
        rw[e3]
        intro v F5 H5 x5 r5
        rw[hK] at r5
        have x35:=x34.trans x5
        obtain⟨y1,y2⟩:=XF x2 hm x35
        refine⟨vs,x35.hh acc _ zB,?_,ds.length-(i+1),by lia,rfl,hlt,F5,vk H5 acc,τ2,dn++[z],rs',vs++[v],y1,jb _ _,by rw[YN],(r2.mono x35.ff).append (Reps.cons r5 Reps.nil),?_,n3,so3,e4,?_⟩
        ·have:=congrArg List.length ex
         rw[← ers,length_append,length_cons,r2.length] at this
         lia
        ·exact((RR.ext x4).ext x5).free_upd n3 hacc y2 (.inr ⟨_,x35.hh acc _ zB⟩)
        ·rw[ex,← ers,List.append_assoc];rfl
  ·have e:i=ds.length:=by lia
   subst e
   rw[drop_length,uo] at cl
   cases cl
   rw[append_nil] at ex
   subst ex
   exact .inl ⟨i1 (le_refl _),k acc vs F2 Hm (x.trans x2) hm r2⟩
theorem ug(hb:jC X.env.scope scope=true)(hc:X.calm=true)(hfr:FreeOk scope X.N fr idx)(so:WN set)(hi:M9 X tg iter fi)
  (hg:∀s H C fp,PDG (X.comp scope (tn++fr) s H C fp) tg set) (ht:∀s H C fp,M8 (X.comp scope (tn++fr) s H C fp) ifs ft) (he:∀s H C fp,PDE (X.comp scope (tn++fr) s H C fp) elt fe)
  (hs:∀x,foldedSetIterable iter X.env x=pure x:=by intro _;rfl):PDF X (.ListComp elt [⟨tg,iter,ifs,0⟩] scope pos) (wZ tn.length idx fi set ft fe):=
 PE.imp (TW (s0:=uq tn.length idx) (g:=tG (X.comp scope (tn++fr) X.s₀ X.H₀ 0 []) set) (ti:=tTs (X.comp scope (tn++fr) X.s₀ X.H₀ 0 []) ft) (te:=tE (X.comp scope (tn++fr) X.s₀ X.H₀ 0 []) fe)
  (vC hb) hc (fun σ _=>by simp[uq,hfr.len]) (Yt hfr) hi hg ht he hs) (jZ so rfl)
theorem Ql{i:Nat}{y:Str}{py spos:Pos}(hN:X.N.Nodup)(hiN:X.N[i]?=some y)(hy:X.env.scope.names.lookup y=some .local)
  (hsw:swapsWith (.ListComp elt [⟨tg,iter,ifs,0⟩] scope pos) (some (.Name y py)) spos.line X.env=pure true)
  (hb:jC X.env.scope scope=true) (hc:X.calm=true) (hfr:FreeOk scope X.N fr idx) (so:WN set) (hi:M9 X tg iter fi)
  (hg:∀s H C fp,PDG (X.comp scope (tn++fr) s H C fp) tg set) (ht:∀s H C fp,M8 (X.comp scope (tn++fr) s H C fp) ifs ft) (he:∀s H C fp,PDE (X.comp scope (tn++fr) s H C fp) elt fe)
  (hs:∀x,foldedSetIterable iter X.env x=pure x:=by intro _;rfl):PDS X (.Assign [.Name y py] (.ListComp elt [⟨tg,iter,ifs,0⟩] scope pos) spos) (yn i fun τ=>(wZ tn.length idx fi set ft fe τ).bind fun ds=>.ok (.lst ds)):=
 PS.imp (Jx (s0:=uq tn.length idx) (g:=tG (X.comp scope (tn++fr) X.s₀ X.H₀ 0 []) set) (ti:=tTs (X.comp scope (tn++fr) X.s₀ X.H₀ 0 []) ft) (te:=tE (X.comp scope (tn++fr) X.s₀ X.H₀ 0 []) fe) hN hiN hy hsw
  (vC hb) hc (fun σ _=>by simp[uq,hfr.len]) (Yt hfr) hi hg ht he hs) fun E σ H ⟨B,Z,F,τ,R,h⟩=>by
  refine jZ (X:=X) (tn:=tn) (idx:=idx) (fi:=fi) (ft:=ft) (fe:=fe) so (Y:=X.comp scope (tn++fr) X.s₀ X.H₀ 0 []) rfl σ H (fun x H1=>WC i x σ H1 E.nx) ⟨F,τ,R.rv,?_⟩
  have h':=h.of.bind
  refine h'.imp fun ds g p vs F1 H1 x hp r=>?_
  have x2:=x.trans (Ext.new (o:=.lst vs) x.fh hp)
  refine g _ _ _ x2.ff ((R.ext x2).set ?_)
  simp only[Rep]
  exact⟨p,vs,rfl,zB,r.mono (yr (zX x.fh hp))⟩
theorem UL{i:Nat}{y:Str}{py spos:Pos}(hN:X.N.Nodup)(hiN:X.N[i]?=some y)(hy:X.env.scope.names.lookup y=some .local)
  (hsw:swapsWith (.ListComp elt [⟨tg,iter,ifs,0⟩] scope pos) (some (.Name y py)) spos.line X.env=pure true)
  (hb:jC X.env.scope scope=true) (hc:X.calm=true) (hfr:FreeOk scope X.N fr idx) (so:WN set) (hi:M9 X tg iter fi)
  (hg:∀s H C fp,PDG (X.comp scope (tn++fr) s H C fp) tg set) (ht:∀s H C fp,M8 (X.comp scope (tn++fr) s H C fp) ifs ft) (he:∀s H C fp,PDE (X.comp scope (tn++fr) s H C fp) elt fe)
  (hs:∀x,foldedSetIterable iter X.env x=pure x:=by intro _;rfl):PDS X (.Assign [.Name y py] (.ListComp elt [⟨tg,iter,ifs,0⟩] scope pos) spos) (wQ i (wZ tn.length idx fi set ft fe)):=
 PS.imp (Jx (s0:=uq tn.length idx) (g:=tG (X.comp scope (tn++fr) X.s₀ X.H₀ 0 []) set) (ti:=tTs (X.comp scope (tn++fr) X.s₀ X.H₀ 0 []) ft) (te:=tE (X.comp scope (tn++fr) X.s₀ X.H₀ 0 []) fe) hN hiN hy hsw
  (vC hb) hc (fun σ _=>by simp[uq,hfr.len]) (Yt hfr) hi hg ht he hs) fun E σ H ⟨B,Z,F,τ,R,h⟩=>by
  refine jZ (X:=X) (tn:=tn) (idx:=idx) (fi:=fi) (ft:=ft) (fe:=fe) so (Y:=X.comp scope (tn++fr) X.s₀ X.H₀ 0 []) rfl σ H (fun x H1=>WC i x σ H1 E.nx) ⟨F,τ,R.rv,?_⟩
  exact h.of.imp fun ds g p vs F1 H1 x hp r=>g _ F1 _ x.ff ((R.ext x).setO hp r)
end
section
variable{X:Cx}{pos:Pos}{e tg:Expr}{es:List Expr}{fe:FE}{fs:FA}{c f x:Str}{i:Nat}{C:Addr}
noncomputable def iOw(i:Nat)(c f:Str):FA:=fun τ=>V1 τ i c f
theorem LZ{K:Frag}{F H H1:Hp}{l:Addr}{ds:List D}{ws:List V}{i:Nat}(hl:H1 l=some (.lst ws))(hh:Hh H1 H)(fh:Same F H)(r:Reps K F ds ws) :
  (ds.length≤i→(Itl K l).stop i H)∧∀d,ds[i]?=some d→(Itl K l).go i H∧∀x H',(Itl K l).yld i H x H'→∃F',Ext F H F' H'∧Rep K F' d x:=by
 have q:SqL K H l ws:=SqL.of (hh _ _ hl)
 refine⟨fun h=>⟨ws,q,by rw[← r.length];exact h⟩,fun d hd=>?_⟩
 obtain⟨v,h1,h2⟩:=r.get hd
 refine⟨⟨ws,v,q,h1⟩,fun x H' y=>?_⟩
 obtain⟨e1,y⟩:=y
 subst e1
 have h3:=y ws q
 rw[h1] at h3;cases h3
 exact⟨F,Ext.refl fh,h2⟩
theorem zc8{p1 p2:Pos}(hx:PE X (.Name x p1) (wN i))(hC:nsIn X.K mainGlobals c=some (some (.ref C)))(cl:Cls X.K C)(na:NoAttr X.K C f)(ho:Tabs.own c f=true:=by rfl):M9 X tg (.Attribute (.Name x p1) f p2) (iOw i c f):=
 PI.imp (Jy (Z8 hx)) fun σ H R z_=>by
  refine byc fun zG=>?_
  obtain⟨F,τ,Rv,h⟩:=z_
  obtain⟨ds,a,C',dx,vs,l,ws,h1,h2,h3,h4,h5,h6,h7,h8⟩:=YC Rv ho h
  refine zG ?_
  obtain rfl:C=C':=by rw[hC] at h3;cases h3;rfl
  exact⟨_,h1,a,C,dx,vs,.ref l,rfl,h2,cl,na,h4,l,rfl,⟨ws,SqL.of h5⟩,h8 _ F H (Ext.refl Rv.fh) fun i F2 H2 f1 f2 hh=>LZ h5 hh f2 (h7.mono f1)⟩
theorem Wr{p p1 p2:Pos}(hx:PE X (.Name x p1) (wN i))(hC:nsIn X.K mainGlobals c=some (some (.ref C)))(cl:Cls X.K C)(na:NoAttr X.K C f)(hg:Gl X "list")(hm:X.mg "list" = none)(ho:Tabs.own c f=true:=by rfl)
  (he:starEach [.Attribute (.Name x p1) f p2] X.env=[(false,eval (.Attribute (.Name x p1) f p2) X.env)]:=by rfl) (hpl:(backTo pos (starEach [] X.env)).any (·.1)=false:=by rfl):PDF X (.Call (.Name "list" p) [.Attribute (.Name x p1) f p2] [] pos) (iOw i c f):=
 PE.imp (L2.pe_callTy ZF hg hm boot_list (vz (Z8 hx) jT (by rw[he];rfl)) (by decide) (by decide) (by rw[he];rfl) hpl) fun σ H Q z_=>by
  refine byc fun zG=>?_
  obtain⟨F,τ,Rv,h⟩:=z_
  obtain⟨ds,a,C',dx,vs,l,ws,h1,h2,h3,h4,h5,h6,h7,h8⟩:=YC Rv ho h
  refine zG ?_
  obtain rfl:C=C':=by rw[hC] at h3;cases h3;rfl
  exact⟨_,h1,a,C,dx,vs,.ref l,rfl,h2,cl,na,h4,l,ws,rfl,.inl (SqL.of h5),fun p hp=>h8 p ws F H (Ext.refl Rv.fh) hp h7⟩
noncomputable def Gi(τ:DS)(i:Nat)(c f:Str):Rs (List D):=match τ[i]? with
 | some (some (.obr c' fs))=>if c'=c then (match yR f fs with
  | some (.lst ds)=>.ok ds
  |_=>.no) else .no
 |_=>.no
theorem Tw{X:Cx}{B Z F H:Hp}{τ:DS}{σ:St}{P:List D→Prop}(R:RS X.K B Z F τ σ H)(ho:Tabs.own c f=true)(h:Ok X (Gi τ i c f) P) :
  ∃ds a C dx vs l ws,σ[i]?=some (some (.ref a))∧H a=some (.ins C dx vs)∧nsIn X.K mainGlobals c=some (some (.ref C))∧vs.lookup f=some (.ref l)∧B l=some (.lst ws)∧Reps X.K F ds ws∧P ds:=by
 unfold Gi at h
 split at h
 ·rename_i c' fs e
  by_cases z:c'=c
  ·subst z
   rw[if_pos rfl] at h
   refine byc fun zG=>?_
   obtain⟨a,C,dx,vs,h1,h2,h4,h5⟩:=R.rv.ob.rd i c' fs e
   obtain⟨C2,dx2,vs2,b1,b2⟩:=R.ro i c' fs a e h1
   refine zG ?_
   have hb:H a=some (.ins C2 dx2 vs2):=R.bh _ _ b1
   rw[h2] at hb;cases hb
   have l:=h5.look (f:=f)
   cases q:yR f fs with
   |none=>rw[q] at h;exact h.elim
   |some d=>
    rw[q] at h l
    refine byc fun zG=>?_
    obtain⟨v,l1,l2⟩:=l
    unfold ZK at l2
    rw[if_pos ho] at l2
    obtain⟨ds,p,ws,rfl,rfl,e3,e4,e5⟩:=l2
    obtain⟨ws2,b3⟩:=b2 p (vF ho l1)
    refine zG ?_
    have:H p=some (.lst ws2):=R.bh _ _ b3
    rw[e3] at this;cases this
    exact⟨ds,a,C,dx,vs,p,ws,h1,h2,h4,l1,b3,e5,h⟩
  ·rw[if_neg z] at h;exact h.elim
 ·exact h.elim
noncomputable def Wo(i:Nat)(c f:Str)(set:FG)(body:FS):FS:=fun τ=>Fl.of (Gi τ i c f) fun ds=>yJ set body ds τ
theorem GI{p1 p2:Pos}{body:List Stmt}{set:FG}{fb:FS}(hp:PassesOwn (model X.prog X.w) X.A X.env X.xe)(hc:X.calm=true)(hx:PE X (.Name x p1) (wN i))(hC:nsIn X.K mainGlobals c=some (some (.ref C)))(cl:Cls X.K C)(na:NoAttr X.K C f)(hg:PDG X tg set)(hb:vD X body fb)(ho:Tabs.own c f=true:=by rfl)
  (hs2:∀v,foldedSetIterable (.Attribute (.Name x p1) f p2) X.env v=pure v:=by intro _;rfl):PDS X (.For tg (.Attribute (.Name x p1) f p2) body [] pos) (Wo i c f set fb):=
 PS.imp (Gv hp hc (Jy (Z8 hx)) hg hb hs2) fun E σ H z_=>by
  refine byc fun zG=>?_
  obtain⟨B,Z,F,τ,R,h⟩:=z_
  obtain⟨ds,a,C',dx,vs,l,ws,h1,h2,h3,h4,h5,h7,g⟩:=Tw R ho (Post.of h)
  refine zG ?_
  obtain rfl:C=C':=by rw[hC] at h3;cases h3;rfl
  refine⟨_,h1,a,C,dx,vs,.ref l,rfl,h2,cl,na,h4,l,rfl,⟨ws,SqL.of (R.bh _ _ h5)⟩,?_⟩
  refine⟨fun i m σ H=>m=ds.length-i∧i≤ds.length∧∃F' τ',Same F F'∧RS X.K B Z F' τ' σ H∧Post X B Z F' E (yJ set fb (ds.drop i) τ'),⟨ds.length,by simp,zero_le _,F,τ,Same.refl _,R,g⟩,?_⟩
  rintro i m σ2 H2 ⟨rfl,hi,F2,τ2,f2,R2,p2⟩
  obtain⟨i1,i2⟩:=LZ (K:=X.K) (i:=i) h5 R2.bh R2.rv.fh (h7.mono f2)
  by_cases hlt:i<ds.length
  ·have hd:ds.drop i=ds[i]::ds.drop (i+1):=drop_eq_getElem_cons hlt
   rw[hd] at p2
   obtain⟨go,yl⟩:=i2 ds[i] (by simp[hlt])
   refine .inr ⟨go,fun σ' H'=>∃F' τ',Same F2 F'∧RS X.K B Z F' τ' σ' H'∧Post X B Z F' E (yJ set fb (ds.drop (i+1)) τ'),fun σ' H' ⟨F',τ',a,b,c⟩=>⟨ds.length-(i+1),by lia,rfl,hlt,F',τ',f2.trans a,b,c⟩,fun y H' yy=>?_⟩
   obtain⟨F3,x3,r3⟩:=yl y H' yy
   have R3:=R2.ext x3
   refine⟨F3,τ2,ds[i],R3.rv,r3,(Post.of p2).imp fun τ4 p4 σ4 _ R4 _=>⟨B,Z,F3,τ4,R4 B Z R3,?_⟩⟩
   cases q:fb τ4 with
   |nx τ5=>rw[q] at p4;exact fun σ' F' H' ff RR=>⟨F',τ5,x3.ff.trans ff,RR,Post.same p4 (x3.ff.trans ff)⟩
   |ct τ5=>rw[q] at p4;exact fun σ' F' H' ff RR=>⟨F',τ5,x3.ff.trans ff,RR,Post.same p4 (x3.ff.trans ff)⟩
   |bk τ5=>rw[q] at p4;exact fun σ' F' H' ff RR=>p4 σ' F' H' (x3.ff.trans ff) RR
   |rt d=>rw[q] at p4;exact p4
   |ro d τ'=>rw[q] at p4;exact fun v σ' F' H' ff RR rr=>p4 v σ' F' H' (x3.ff.trans ff) RR rr
   |rb d τ'=>rw[q] at p4;exact fun v σ' F' H' ff RR rr=>p4 v σ' F' H' (x3.ff.trans ff) RR rr
   |ex c=>rw[q] at p4;exact p4
   |no=>rw[q] at p4;exact p4
   |rs c τ5=>rw[q] at p4;exact fun σ' F' H' ff RR=>p4 σ' F' H' (x3.ff.trans ff) RR
  ·have e:i=ds.length:=by lia
   subst e
   rw[drop_length] at p2
   exact .inl ⟨i1 (le_refl _),p2 σ2 F2 H2 (Same.refl _) R2⟩
theorem JA{c f g:Str}{l:Addr}:∀{vs:List (Str×V)},(yM c vs).Nodup→Tabs.own c f=true→Tabs.own c g=true→f≠g→vs.lookup f=some (.ref l)→vs.lookup g=some (.ref l)→False
 |[],_,_,_,_,e,_=>by cases e
 | (k,w)::vs,nd,hf,hg,hne,e1,e2=>by
  obtain⟨n1,n2⟩:=ownL_nd.mp nd
  by_cases z1:f=k
  ·subst z1
   have:w=.ref l:=by simpa[List.lookup] using e1
   subst this
   have hb:(g==f)=false:=beq_eq_false_iff_ne.mpr (Ne.symm hne)
   exact n1 l hf rfl (vF hg (by simpa[List.lookup,hb] using e2))
  ·have hb1:(f==k)=false:=beq_eq_false_iff_ne.mpr z1
   have e3:vs.lookup f=some (.ref l):=by simpa[List.lookup,hb1] using e1
   by_cases z2:g=k
   ·subst z2
    have:w=.ref l:=by simpa[List.lookup] using e2
    subst this
    exact n1 l hg rfl (vF hf e3)
   ·have hb2:(g==k)=false:=beq_eq_false_iff_ne.mpr z2
    exact JA n2 hf hg hne e3 (by simpa[List.lookup,hb2] using e2)
noncomputable def vx(i:Nat)(c f g:Str):FS:=fun τ=>Fl.of (omO τ i c f) fun p=>Fl.of (omO τ i c g) fun q=>match q.2.2[q.2.2.length-1]? with
 |some d=>if p.2.2.length<sizeLine then .nx ((τ.set i (some (.obj q.1 c (xQ g (.lst q.2.2.dropLast) q.2.1)))).set i (some (.obj q.1 c (xQ f (.lst (p.2.2++[d])) (xQ g (.lst q.2.2.dropLast) q.2.1))))) else .no
 |none=>.no
theorem Y4{g:Str}{p1 p2 p3 p4 apos cpos apos' cpos':Pos}(hx:PE X (.Name x p1) (wN i))(hx':PE X (.Name x p3) (wN i))(hC:nsIn X.K mainGlobals c=some (some (.ref C)))(cl:Cls X.K C)(na:NoAttr X.K C f)(na':NoAttr X.K C g)(hne:f≠g)(ho:Tabs.own c f=true:=by rfl)(ho':Tabs.own c g=true:=by rfl)
  (hfew:((backTo cpos (starEach [.Call (.Attribute (.Attribute (.Name x p3) g p4) "pop" apos') [] [] cpos'] X.env)).all (fun x=>!x.1)&&(backToKw cpos (keywordEach [] X.env)).all (fun x=>x.1.isSome)
   && decide ([Expr.Call (.Attribute (.Attribute (.Name x p3) g p4) "pop" apos') [] [] cpos'].length+([]:List Keyword).length+(if ([]:List Keyword).isEmpty then 0 else 1)<30))=true:=by rfl)
  (hline:(apos.endLine==cpos.line)=true:=by rfl) (hline':(apos'.endLine==cpos'.line)=true:=by rfl) (hs:starEach [.Call (.Attribute (.Attribute (.Name x p3) g p4) "pop" apos') [] [] cpos'] X.env=[(false,eval (.Call (.Attribute (.Attribute (.Name x p3) g p4) "pop" apos') [] [] cpos') X.env)]:=by rfl) (hplain:(backTo cpos (starEach [] X.env)).any (·.1)=false:=by rfl)
  (hbase:attributeBase (.Attribute (.Name x p1) f p2) "append" X.env (eval (.Attribute (.Name x p1) f p2) X.env)=eval (.Attribute (.Name x p1) f p2) X.env:=by rfl) (hbase':attributeBase (.Attribute (.Name x p3) g p4) "pop" X.env (eval (.Attribute (.Name x p3) g p4) X.env)=eval (.Attribute (.Name x p3) g p4) X.env:=by rfl)
  (hsw:swapsWith (.Call (.Attribute (.Attribute (.Name x p1) f p2) "append" apos) [.Call (.Attribute (.Attribute (.Name x p3) g p4) "pop" apos') [] [] cpos'] [] cpos) none pos.line X.env=pure false:=by rfl) :
  PDS X (.Expr (.Call (.Attribute (.Attribute (.Name x p1) f p2) "append" apos) [.Call (.Attribute (.Attribute (.Name x p3) g p4) "pop" apos') [] [] cpos'] [] cpos) pos) (vx i c f g):=
 PS.imp (Yu (GE PySem.F.plainAttrs_list PySem.F.slot_list_append PySem.F.type_list_append jx (Z8 hx) (vz (GD PySem.F.plainAttrs_list PySem.F.slot_list_pop PySem.F.type_list_pop ze6 (Z8 hx') hbase' hline') jT (by rw[hs];rfl)) hbase hfew hline (by rw[hs];rfl) hplain) hsw) fun E σ H z_=>by
  refine byc fun zG=>?_
  obtain⟨B,Z,F,τ,R,h⟩:=z_
  obtain⟨n,fs,ds,a,C',dx,vs,l,ws,h0,h1,h2,h3,h4,h5,h6,h7,h8⟩:=UP R.rv ho (Post.of h)
  refine zG ?_
  obtain rfl:C=C':=by rw[hC] at h3;cases h3;rfl
  refine byc fun zG=>?_
  obtain⟨n',fs',ds',a',C',dx',vs',l',ws',k0,k1,k2,k3,k4,k5,k6,k7,k8⟩:=UP R.rv ho' (Post.of h8)
  refine zG ?_
  obtain⟨rfl,rfl⟩:n=n'∧fs=fs':=by rw[h0] at k0;cases k0;exact⟨rfl,rfl⟩
  obtain rfl:a=a':=by rw[h1] at k1;cases k1;rfl
  rw[h2] at k2;cases k2
  dsimp only at k8
  cases q:ds'[ds'.length-1]? with
  |none=>rw[q] at k8;exact k8.elim
  |some d=>
   rw[q] at k8
   obtain⟨v,z1,z2⟩:=k7.get q
   by_cases z:ds.length<sizeLine
   ·dsimp only at k8
    rw[if_pos z] at k8
    have hll:l≠l':=fun e=>by
     subst e
     refine byc fun zG=>?_
     obtain⟨a2,q1,C2,dx2,vs2,q2,_,_,_,_,q7⟩:=R.rv.ob.at_ i n c fs h0
     refine zG ?_
     rw[h1] at q1;cases q1
     rw[h2] at q2;cases q2
     exact JA q7 ho ho' hne h4 k4
    refine⟨_,h1,a,C,dx,vs,.ref l,rfl,h2,cl,na,h4,.inl ⟨rfl,ws,SqL.of h5⟩,?_⟩
    refine⟨_,h1,a,C,dx,vs,.ref l',rfl,h2,cl,na',k4,.inl ⟨rfl,ws',SqL.of k5⟩,l',ws',v,rfl,rfl,k5,by rw[← k7.length];exact z1,?_⟩
    refine⟨l,ws,v,rfl,rfl,by rw[zr hll];exact h5,by rw[← h7.length];exact z,?_⟩
    have R1:=R.attL h0 h1 h2 ho' k4 k5 k6 (Qg k7)
    have hal:a≠l':=fun e=>by subst e;rw[h2] at k5;cases k5
    have hlen:i<τ.length:=(List.getElem?_eq_some_iff.mp h0).1
    exact k8 _ F _ (Same.refl F) (R1.attL (n:=n) (getElem?_set_self hlen) h1 (by rw[zr hal];exact h2) ho h4 (by rw[zr hll];exact h5) h6 (h7.append (Reps.cons z2 Reps.nil)))
   ·dsimp only at k8
    rw[if_neg z] at k8;exact k8.elim
end
noncomputable def spO(K:Frag)(c:Str)(j n:Nat)(c2:Str)(g:Fs→List D→Rs Fs):Sp:=fun vs H Q E=>vs.length=n+1∧∃a us1 us2 ds1 ds2 fs F C dx ws,vs=us1 ++ .ref a::us2∧us1.length=j∧H a=some (.ins C dx ws)∧nsIn K mainGlobals c=some (some (.ref C))∧Flds K F H c fs ws∧Same F H∧TbT F H∧Reps K F ds1 us1∧Reps K F ds2 us2∧match g fs (ds1++ds2) with
 |.ok fs'=>∀b F' H',Ext F H F' H'→We K F' H' c2 fs' b→H b=none→(∀l∈Lof H' c2 b,H l=none)→Q (.ref b) H'
 |_=>False
noncomputable def flO(c2:Str):Fl→Rs Fs
 |.rb i τ=>(uw τ i c2).bind fun p=>.ok p.2
 |_=>.no
noncomputable def Gf(N j:Nat)(c c2:Str)(fb:FS)(fs:Fs)(ds:List D):Rs Fs:=flO c2 (fb (y8 (.obr c fs) j N ds))
section
variable{P:Program}{w:World}{K:Frag}{mg:Str→Option Value}{base:Heap}
theorem fnO{x qual c c2:Str}{st:Stmt}{f:Addr}{fd:FuncData}{N ps:List Str}{k n j:Nat}{fb:FS}(F:Fun K x qual st f fd)(S:zD N ps (zi st))(hn:ps.length=n+1)
  (hbody:∀(cdv:Value) (A:Around) (outer:List Env) (s:Shared) (H:Hp) (E:XK),Room k (A.deeper (envOfC qual (zi st) s.heap.objs.size f cdv)) →
   vD (uS CX0 P w K mg base N qual (zi st) f cdv A outer s H E).nox (zt st) fb):FnOk P w K mg base CX0 (k+1) f fd ps (spO K c j n c2 (Gf N.length j c c2 fb)):=by
 refine F.ok S (fun vs H Q E h=>by rw[hn];exact h.1) fun cdv A outer s H vs Q E hr h=>⟨_,hbody cdv A outer s H E hr,?_⟩
 refine byc fun zG=>?_
 obtain⟨hl,a,us1,us2,ds1,ds2,fs,Fz,C,dx,ws,rfl,hj,o1,o2,o3,fh,tt,r1,r2,h⟩:=h
 refine zG ?_
 have hd1:ds1.length=j:=r1.length.trans hj
 have st:y8 (.obr c fs) j N.length (ds1++ds2)=uT (.obr c fs) ds1 ds2 N.length:=ZN hd1
 refine⟨H,Fz,Fz,uT (.obr c fs) ds1 ds2 N.length,ZR rfl fh tt r1 r2 (fun n' c' fs' e=>by cases e) (fun c' fs' e=>by cases e;exact⟨C,dx,ws,o1,o2,o3⟩) (Hh.refl H) (fun _ _ e=>e) (fun _ _ _=>rfl),?_⟩
 unfold Gf at h
 rw[st] at h
 cases q:fb (uT (.obr c fs) ds1 ds2 N.length) with
 |rb i τ=>
  rw[q] at h
  cases z:uw τ i c2 with
  |ok p=>
   obtain⟨m,fs'⟩:=p
   simp only[flO,z,Rs.bind] at h
   have zz:=JD z
   intro v σ F' H' ff RR e
   obtain⟨b,p1,p2⟩:=RR.rv.ob.at_ i m c2 fs' zz
   rw[p1] at e;cases e
   obtain⟨b1,b2⟩:=RR.oo i m c2 fs' b zz p1
   exact h b F' H' RR.out p2 b1 b2
  |ex c=>simp only[flO,z,Rs.bind] at h
  |no=>simp only[flO,z,Rs.bind] at h
 |nx τ=>rw[q] at h;exact h.elim
 |rt d=>rw[q] at h;exact h.elim
 |ro d τ=>rw[q] at h;exact h.elim
 |bk τ=>rw[q] at h;exact h.elim
 |ct τ=>rw[q] at h;exact h.elim
 |ex c=>rw[q] at h;exact h.elim
 |no=>rw[q] at h;exact h.elim
 |rs c τ=>rw[q] at h;exact h.elim
noncomputable def MetO(P:Program)(w:World)(K:Frag)(mg:Str→Option Value)(base:Heap)(c m:Str)(k n:Nat)(ps:List Str)(c2:Str)(g:Fs→List D→Rs Fs):Prop:=
 ∃C f fd,nsIn K mainGlobals c=some (some (.ref C))∧Cls K C∧uM K C m f∧FnOk P w K mg base CX0 k f fd ps (spO K c 0 n c2 g)∧Binds K fd ps []
theorem MetO.mk{c m qual c2:Str}{C:Addr}{st:Stmt}{f:Addr}{fd:FuncData}{N ps:List Str}{k n:Nat}{fb:FS}(A:ClsAt K mg c C)(hm:uM K C m f)(D:Fun K m qual st f fd)(S:zD N ps (zi st))(hn:ps.length=n+1)
  (hb:∀(kV doc pm:Value) (an:Option Addr) (cdv ct:Value) (us:List Value),us.length=ps.length→bindArgs (fnOf m qual (zE st) (zt st) (zi st) .none kV doc pm an cdv ct) ⟨us,[]⟩=pure (ps.zip us))
  (hbody:∀(cdv:Value) (A:Around) (outer:List Env) (s:Shared) (H:Hp) (E:XK),Room k (A.deeper (envOfC qual (zi st) s.heap.objs.size f cdv)) →
   vD (uS CX0 P w K mg base N qual (zi st) f cdv A outer s H E).nox (zt st) fb):MetO P w K mg base c m (k+1) n ps c2 (Gf N.length 0 c c2 fb):=
 ⟨C,f,fd,A.ns,A.cls,hm,fnO D S hn hbody,D.binds hb⟩
end
section
variable{X:Cx}{pos:Pos}{e:Expr}{es:List Expr}{fs:FA}{c c2 m x y:Str}{i k n h_:Nat}{ps:List Str}
noncomputable def Qv(op:D→D→Rs D)(fo fo2:FOb):FOb:=fun τ=>(fo τ).bind fun p=>(fo2 p.2).bind fun p2=>(op p.1 p2.1).bind fun z=>.ok (z,p2.2)
theorem T4{fo fo2:FOb}{r:R2}{op:D→D→Rs D}(hl:∀F H x y dx dy Q,Same F H→Rep X.K F dx x→Rep X.K F dy y→Ok X (op dx dy) (Ev X.K F H Q)→r x y H Q)
  (σ:St) (H:Hp) (Q:VK) (h:tOb X (Qv op fo fo2) σ H Q):tOp r (tOb X fo) (tOb X fo2) σ H Q:=by
 refine byc fun zG=>?_
 obtain⟨B,Z,F,τ,R,h⟩:=h
 refine zG ?_
 refine⟨B,Z,F,τ,R,h.bind.imp fun p g v F1 H1 f1 R1 r1=>?_⟩
 refine⟨B,Z,F1,p.2,R1,g.bind.imp fun p2 g2 w F2 H2 f2 R2 r2=>?_⟩
 exact hl F2 H2 v w p.1 p2.1 Q R2.rv.fh (r1.mono f2) r2 (g2.bind.imp fun z gz u F3 H3 x3 r3=>gz u F3 H3 (f1.trans (f2.trans x3.ff)) (R2.ext x3) r3)
theorem Qm{a b:Expr}{fo fo2:FOb}{o:CmpOp}{op:D→D→Rs D}(ho:OpD X (compareOp o) op)(ha:VB X a fo)(hb:VB X b fo2)(hm:behindInMarks o b=false):jO X (.Compare a [o] [b] pos) (oB (Qv op fo fo2)):=by
 obtain⟨r,h1,h2⟩:=ho
 refine(WX h1 ha hb hm).imp fun σ H Q h=>?_
 refine byc fun zG=>?_
 obtain⟨B,Z,F,τ,R,h⟩:=h
 refine zG ?_
 refine T4 h2 σ H _ ⟨B,Z,F,τ,R,h.bind.imp fun p g v F1 H1 f1 R1 r1=>?_⟩
 obtain⟨d,τ'⟩:=p
 cases d with
 |bl k=>simp only[Rep] at r1;exact⟨k,r1,g F1 H1 f1 R1⟩
 |_=>exact g.elim
theorem GK{fo:FOb}(h:VB X e fo)(he:∀whole,isTrue e X.env whole=(do let v ← whole;standAt e.pos;holding [v] (truthy v)):=by intro _;rfl):jO X e (oB fo):=
 PT.imp (zb4 h he) fun σ H Q ⟨B,Z,F,τ,R,h⟩=>⟨B,Z,F,τ,R,h.bind.imp fun p g v F1 H1 f1 R1 r1=>by
  obtain⟨d,τ'⟩:=p
  cases d with
  |bl k=>simp only[Rep] at r1;exact⟨k,r1,g F1 H1 f1 R1⟩
  |_=>exact g.elim⟩
noncomputable def V6(ga:j6):j6:=fun τ=>(ga τ).bind fun p=>.ok (!p.1,p.2)
theorem GL{ga:j6}(ha:jO X e ga):jO X (.UnaryOp .Not e pos) (V6 ga):=
 PT.imp (Gr ha) fun σ H Q z_=>by obtain⟨B,Z,F,τ,R,h⟩:=z_;exact⟨B,Z,F,τ,R,h.bind.imp fun p g F1 H1 f1 R1=>g F1 H1 f1 R1⟩
noncomputable def Ju(i:Nat)(c:Str):FS:=fun τ=>Fl.of (uw τ i c) fun _=>.rb i τ
theorem GH{p1:Pos}(hx:PE X (.Name x p1) (wN i)):PDS X (.Return (some (.Name x p1)) pos) (Ju i c):=
 PS.imp (WY hx) fun E σ H z_=>by
  refine byc fun zG=>?_
  obtain⟨B,Z,F,τ,R,h⟩:=z_
  obtain⟨n,fs,h1,h2⟩:=ju (X:=X) (Post.of h)
  obtain⟨a,q1,_⟩:=R.rv.ob.at_ i n c fs h1
  refine zG ?_
  exact⟨_,q1,h2 _ σ F H (Same.refl F) R q1⟩
noncomputable def Zc(i h_:Nat)(c m c2:Str)(g:Fs→List D→Rs Fs):FS:=fun τ=>Fl.of (jG τ h_ c) fun o=>if (yR m o).isNone=true then (match g o [] with
 |.ok o'=>.nx (τ.set i (some (.obj 0 c2 o')))
 |_=>.no) else .no
theorem VX{g:Fs→List D→Rs Fs}{p1 apos cpos pos':Pos}{pl:Sem Bool}(M:MetO X.prog X.w X.K X.mg X.base c m k 0 ps c2 g)(hr:Room k X.A)(ho:PE X (.Name x p1) (wN h_))(hN:X.N.Nodup)(hi:X.N[i]?=some y)(hy:Loc X.env.scope y)
  (ht:eval (.Call (.Attribute (.Name x p1) m apos) [] [] cpos) X.env=(do
   let ov ← eval (.Name x p1) X.env
   standAt apos.atName
   let (f,first) ← holding [ov] (getMethod ov m pl)
   callWith cpos f first (backTo cpos (starEach [] X.env)) (backToKw cpos (keywordEach [] X.env))):=by rfl)
  (hs:swapsWith (.Call (.Attribute (.Name x p1) m apos) [] [] cpos) (some (.Name y pos')) pos.line X.env=pure false:=by rfl) (hf:X.fn y=true∨X.env.scope.names.lookup y=some .local:=by first|exact .inl rfl|exact .inr rfl|assumption) :
  PDS X (.Assign [.Name y pos'] (.Call (.Attribute (.Name x p1) m apos) [] [] cpos) pos) (Zc i h_ c m c2 g):=by
 refine byc fun zG=>?_
 obtain⟨C,f,fd,hC,cl,hm,F,hb⟩:=M
 refine zG ?_
 refine PS.imp (YY hN hi hy (Y2 ho cl hm F hr hb .nil (E:=E0) Z9 ht) hs hf) fun E σ H z_=>?_
 refine byc fun zG=>?_
 obtain⟨B,Z,Fz,τ,R,h⟩:=z_
 obtain⟨o,a,C',dx,vs,h1,h2,h3,h4,h5⟩:=Zw R.rv (Post.of h)
 refine zG ?_
 obtain rfl:C=C':=by rw[hC] at h3;cases h3;rfl
 have l:=h4.look (f:=m)
 cases z:yR m o with
 |some d=>rw[z,if_neg (by simp)] at h5;exact h5.elim
 |none=>
  rw[z] at l h5
  rw[if_pos (by rfl)] at h5
  refine⟨_,h1,a,dx,vs,rfl,h2,l,?_⟩
  refine⟨rfl,a,[],[],[],[],o,Fz,C,dx,vs,rfl,rfl,h2,h3,h4,R.rv.fh,R.rv.tt,Reps.nil,Reps.nil,?_⟩
  cases q:g o [] with
  |ex c=>rw[q] at h5;exact h5.elim
  |no=>rw[q] at h5;exact h5.elim
  |ok o'=>
   rw[q] at h5
   show match g o ([]++[]) with
    |.ok fs'=>_
    |_=>False
   rw[nil_append,q]
   exact fun b F' H' ex ob hb1 hb2=>h5 _ F' H' ex.ff (R.setObj ex ob hb1 hb2)
end
section
variable{X:Cx}{pos:Pos}{e a b:Expr}{es:List Expr}{fe fa fb fi:FE}{C:Addr}{c f x:Str}{i:Nat}
end
omit [Tabs] in
theorem vals_ints:∀{vs:List Value} {ns:List Int},IntsAre vs ns→Vals (ns.map V.int) vs
 |_,_,.nil=>.nil
 |_,_,.cons n t r=>.cons ⟨t,rfl⟩ (vals_ints r)
section
variable{X:Cx}{pins:List (Addr×Obj)}{σ:St}{F H:Hp}{s:Shared}{Q:VK}{E:Value→Shared→Prop}
end
section
variable{X:Cx}{pos:Pos}{C:Addr}{c f x:Str}{i:Nat}
end
open PySem.W
section
variable{P:Program}{w:World}{K:Frag}{mg:Str→Option Value}{base:Heap}
end
section
variable{P:Program}{w:World}{K:Frag}{mg:Str→Option Value}{base:Heap}
end
section
variable{X:Cx}{pos:Pos}{e:Expr}{es:List Expr}{fe:FE}{ff:FA}{c m x:Str}{i k n h_:Nat}{ps:List Str}
end
section
variable{τ:DS}{fa fb fc fe fi:FE}{fs:FA}{op:D→D→Rs D}{d x y:D}{i j k:Int}{n m:Nat}
noncomputable def getV:Option (Option Sl)→Rs D
 | some (some (.val d))=>.ok d
 |_=>.no
noncomputable def Up:Option (Option Sl)→Rs (List D)
 | some (some (.own d))=>.ok d
 |_=>.no
@[simp] theorem zF:getV (some (some (.val d)))=.ok d:=rfl
@[simp] theorem xg{ds:List D}:Up (some (some (.own ds)))=.ok ds:=rfl
theorem zJ:ze n τ=getV τ[n]?:=rfl
theorem vj:jH τ n=Up τ[n]?:=rfl
theorem yU:eC d τ=.ok d:=rfl
theorem yg:eOp op fa fb τ=(fa τ).bind fun x=>(fb τ).bind fun y=>op x y:=rfl
theorem zA:zg τ=.ok []:=rfl
theorem zC:za fa fs τ=(fa τ).bind fun x=>(fs τ).bind fun r=>.ok (x::r):=rfl
theorem Vs:vB fs τ=(fs τ).bind fun ds=>if ds.length≤sizeLine then .ok (.lst ds) else .no:=rfl
theorem JY:yz fs τ=(fs τ).bind fun ds=>if ds.length≤sizeLine then .ok (.tup ds) else .no:=rfl
theorem yF{g:List D→Rs D}:zv g fs τ=(fs τ).bind fun ds=>Vd (g ds):=rfl
theorem wY{g:List D→Rs D}:yv g fs τ=(fs τ).bind g:=rfl
theorem MT{g:FT}:eIf g fa fb τ=(g τ).bind fun b=>if b=true then fa τ else fb τ:=rfl
theorem Vt:Jb fa fb τ=(fa τ).bind fun x=>(ZL x).bind fun b=>if b=true then fb τ else .ok x:=rfl
theorem MS:eOr fa fb τ=(fa τ).bind fun x=>(ZL x).bind fun b=>if b=true then .ok x else fb τ:=rfl
noncomputable def boolOf:D→Rs Bool
 |.bl b=>.ok b
 |_=>.no
@[simp] theorem z5{b:Bool}:boolOf (.bl b)=.ok b:=rfl
theorem x9:FD.tB fe τ=(fe τ).bind boolOf:=rfl
theorem vR:jP fe τ=(fe τ).bind ZL:=rfl
theorem vg{f g:FT}:vm f g τ=(f τ).bind fun b=>if b=true then g τ else .ok false:=rfl
theorem uU{f g:FT}:YO f g τ=(f τ).bind fun b=>if b=true then .ok true else g τ:=rfl
theorem Td{f:FT}:VL f τ=(f τ).bind fun b=>.ok (!b):=rfl
theorem JZ{T:String}{g:D→List D→Rs D}:Ja T g fa τ=(fa τ).bind fun d=>if Wb T d=true then g d [] else .no:=rfl
theorem MR{fl fh:FO}:eSl fe fl fh τ=(fe τ).bind fun d=>(fl τ).bind fun l=>(fh τ).bind fun u=>slD d l u:=rfl
noncomputable def Jr:D→Rs (Option Int)
 |.int i=>.ok (some i)
 |_=>.no
@[simp] theorem VO:Jr (.int i)=.ok (some i):=rfl
theorem V5:jJ fe τ=(fe τ).bind Jr:=rfl
noncomputable def Fl.thn(r:Fl)(g:FS):Fl:=match r with
 |.nx τ=>g τ
 |r=>r
@[simp] theorem ym{g:FS}:(Fl.nx τ).thn g=g τ:=rfl
@[simp] theorem ZM{g:FS}:(Fl.rt d).thn g=.rt d:=rfl
theorem zW{f g:FS}:zu f g τ=(f τ).thn g:=rfl
theorem yd:yn n fe τ=Fl.of (fe τ) fun d=>.nx (τ.set n (some (.val d))):=rfl
theorem wP:wQ n fs τ=Fl.of (fs τ) fun ds=>.nx (τ.set n (some (.own ds))):=rfl
theorem yG{g:FT}{f h:FS}:sIf g f h τ=Fl.of (g τ) fun b=>if b=true then f τ else h τ:=rfl
theorem yb:yx fe τ=Fl.of (fe τ) fun d=>.rt d:=rfl
theorem vi:vH n τ=Fl.of (jH τ n) fun ds=>.rt (.lst ds):=rfl
theorem z8:zM τ=.nx τ:=rfl
theorem xY{set:FG}{body:FS}:wR fs set body τ=Fl.of (fs τ) fun ds=>yJ set body ds τ:=rfl
@[simp] theorem zZ:WD (.rt d)=.ok d:=rfl
@[simp] theorem xK:Vd (.ok d)=.ok d:=rfl
@[simp] theorem yI:zQ (.int i) (.int j)=.ok (.int (i+j)):=rfl
theorem M5{a b:Str}(h:a.length+b.length≤sizeLine):zQ (.str a) (.str b)=.ok (.str (a++b)):=if_pos h
@[simp] theorem wa:xw (.int i) (.int j)=.ok (.int (i-j)):=rfl
theorem vK(h:(-(18446744073709551616)<i∧i<18446744073709551616)∨(-(18446744073709551616)<j∧j<18446744073709551616)):vQ (.int i) (.int j)=.ok (.int (i*j)):=if_pos h
theorem Xj(h:0<j):Vi (.int i) (.int j)=.ok (.int (i%j)):=by
 show(if decide (0<j)=true then _ else _)=_
 rw[if_pos (by simpa using h)]
theorem YI(h:0<j∧j<1073741824):XE (.int i) (.int j)=.ok (.int (i / j)):=by
 show(if decide (0<j∧j<1073741824)=true then _ else _)=_
 rw[if_pos (by simpa using h)]
@[simp] theorem JM:ltI (.int i) (.int j)=.ok (.bl (decide (i<j))):=rfl
@[simp] theorem WB:gtD (.int i) (.int j)=.ok (.bl (decide (j<i))):=rfl
@[simp] theorem geD_i:geD (.int i) (.int j)=.ok (.bl (decide (j≤i))):=rfl
@[simp] theorem vL:eqD (.int i) (.int j)=.ok (.bl (i==j)):=rfl
@[simp] theorem MQ{a b:Str}:eqD (.str a) (.str b)=.ok (.bl (a==b)):=rfl
@[simp] theorem Xx{a b:Str}:inD (.str a) (.str b)=.ok (.bl (Jo a b)):=rfl
theorem w5(c:Nat)(x:Str):Jo ⟨#[c]⟩ x=decide (c∈x.cps.toList):=StrLaws.found_one x c
@[simp] theorem Mm{ns:List Int}:yQ [.scr ns]=.ok (.int ns.length):=rfl
@[simp] theorem wU{ds:List D}:yQ [.lst ds]=.ok (.int ds.length):=rfl
theorem Ue{a:Str}(h:a.length≤sizeLine):yQ [.str a]=.ok (.int a.length):=if_pos h
theorem Ln{ns:List Int}{a:Int}(h:atI ns k=some a):ixD (.scr ns) (.int k)=.ok (.int a):=by
 show(match atI ns k with|some d=>Rs.ok (D.int d) | none=>.no)=_
 rw[h]
theorem jy{ds:List D}{a:D}(h:atI ds k=some a):ixD (.lst ds) (.int k)=.ok a:=by
 show(match atI ds k with|some d=>Rs.ok d|none=>.no)=_
 rw[h]
theorem YG{a:Str}{c:Nat}(h:atI a.cps.toList k=some c)(hz:a.length≤sizeLine):ixD (.str a) (.int k)=.ok (yh c):=by
 show(match atI a.cps.toList k with|some c=>if a.length≤sizeLine then Rs.ok (D.str ⟨#[c]⟩) else .no|none=>.no)=_
 rw[h]
 exact if_pos hz
theorem jl{α:Type}{xs:List α}{a:α}(h0:0≤k)(h:xs[k.toNat]?=some a):atI xs k=some a:=by
 have:=J4 (j:=k.toNat) h
 rwa [Int.toNat_of_nonneg h0] at this
@[simp] theorem vq{b:Bool}:ZL (.bl b)=.ok b:=rfl
theorem Q1{a:Str}(h:a.length≤sizeLine):ZL (.str a)=.ok ((a.length:Int) != 0):=if_pos h
theorem yj{b:FS}{ds:List D}:wg n b ds=WD (b (yc n ds)):=rfl
end
theorem U8(l:List PyData):PyData.eqvAll l []=l.isEmpty:=by cases l <;> simp[PyData.eqvAll]
theorem T7(ns:List Int):okD (.scr ns)=true:=by
 have c:∀l:List Int,PyData.canLayAll0 (l.map PyData.int)=true:=fun l=>by
  induction l with
  |nil=>rfl
  |cons a r ih=>simp[PyData.canLayAll0,PyData.canLay0,ih]
 have d:∀l:List Int,PyData.depthAll (l.map PyData.int)=0:=fun l=>by
  induction l with
  |nil=>rfl
  |cons a r ih=>simp[PyData.depthAll,PyData.depth,ih]
 simp[okD,xt,y3,PyData.canLay0,PyData.depth,c,d]
theorem Ur(ns:List Int):eqD (.scr ns) (.lst [])=.ok (.bl ns.isEmpty):=by
 have o2:okD (.lst [])=true:=by decide
 have:um (.scr ns) (.lst [])=ns.isEmpty:=by
  simp only[um,y3,toPys,PyData.eqv,U8]
  cases ns <;> rfl
 simp only[eqD,T7,o2,this,and_self,if_true]
end FD
set_option Elab.async false
set_option linter.all false
set_option maxRecDepth 100000
namespace Law
open PySem PySem.Spec PyProof.Rows L2 FD
instance tabs:FD.Tabs:=⟨[(126,83,28,("in_order" : Str) ++ ".<locals>." ++ "<lambda>")],fun c f=>(c == "Trail" && f == "done")||(c == "Trail" && f == "undone")⟩
noncomputable def Yl:FS:=(zu (sIf (tB (eOp eqD (ze 0) (vB zg))) (yx (eOp vQ (eC (.int 7)) (ze 1))) zM)
  (yx (eOp zQ (eOp ixD (ze 0) (eOp Vi (ze 1) (yv yQ (za (ze 0) zg)))) (eOp vQ (eC (.int 6553)) (eOp XE (ze 1) (yv yQ (za (ze 0) zg)))))))
noncomputable def wL(ds:List D):Rs D:=wg 2 Yl ds
noncomputable def ZI:FS:=(zu (yn 3 (eOp Vi (eOp zQ (eOp vQ (eOp Vi (zv wL (za (ze 0) (za (ze 1) zg))) (eC (.int 2147483563))) (eC (.int 69069))) (eOp vQ (eC (.int 104723)) (eOp zQ (ze 1) (eC (.int 1))))) (eC (.int 2147483563))))
  (zu (yn 3 (eOp Vi (eOp zQ (eOp vQ (ze 3) (ze 3)) (eOp XE (ze 3) (eC (.int 3)))) (eC (.int 2147483399))))
  (yx (eOp Vi (eOp XE (eOp Vi (eOp zQ (eOp vQ (ze 3) (ze 3)) (eOp XE (ze 3) (eC (.int 7)))) (eC (.int 2147483647))) (eC (.int 11))) (ze 2)))))
noncomputable def zq(ds:List D):Rs D:=wg 4 ZI ds
noncomputable def Yj:FS:=(zu (yn 2 (eC (.str "")))
  (zu (wR (ww (za (eOp zQ (eC (.int 1)) (zv zq (za (ze 0) (za (ze 1) (za (eC (.int 10)) zg))))) zg)) (gNm 3) (yn 2 (eOp zQ (ze 2) (eOp ixD (eC (.str "abcabABCab1_-./xyz")) (zv zq (za (ze 0) (za (eOp zQ (eOp zQ (ze 1) (eC (.int 1))) (ze 3)) (za (eC (.int 18)) zg))))))))
  (yx (ze 2))))
noncomputable def xx(ds:List D):Rs D:=wg 4 Yj ds
noncomputable def uG:FS:=(zu (wQ 3 (wZ 1 [0,1] (ww (za (zv zq (za (ze 0) (za (ze 1) (za (eOp zQ (ze 2) (eC (.int 1))) zg)))) zg)) (gNm 0) (fun _=>.ok true) (zv xx (za (ze 1) (za (eOp zQ (eOp zQ (ze 2) (eC (.int 1))) (eOp vQ (eC (.int 12)) (ze 0))) zg)))))
  (zu (sIf (vm (tB (eOp gtD (uO 3) (eC (.int 1)))) (tB (eOp eqD (zv zq (za (ze 0) (za (eOp zQ (ze 1) (eC (.int 12))) (za (eC (.int 5)) zg)))) (eC (.int 0))))) (Qf 3 (eC (.int 0)) (QL 3 (xh (eC (.int 1))))) zM)
  (vH 3)))
noncomputable def xl(ds:List D):Rs D:=wg 4 uG ds
noncomputable def ve:FS:=(zu (sAt 0 "Trail" "names" (yv Mj (za (ze 1) zg)))
  (zu (jD 0 "Trail" "done" (fun τ=>(zg τ).bind fun ds=>if ds.length≤sizeLine then .ok ds else .no))
  (jD 0 "Trail" "undone" (fun τ=>(zg τ).bind fun ds=>if ds.length≤sizeLine then .ok ds else .no))))
noncomputable def ya(fs:Fs)(ds:List D):Rs (D×Fs):=vy 2 0 "Trail" ve fs ds
noncomputable def j1:FS:=(yx (XH [0] (ze 1) (yz (za (xh (eOp ixD (ze 0) (eC (.int 0)))) (za (yv yQ (za (eOp ixD (ze 1) (eOp ixD (ze 0) (eC (.int 1)))) zg)) (za (eOp ixD (ze 0) (eC (.int 1))) zg))))))
noncomputable def wj(ds:List D):Rs D:=wg 2 j1 ds
noncomputable def uE:FS:=(yx (eSl (zv wj (za (ze 0) (za (ze 1) zg))) JF (jJ (yv Xl (za (ze 2) (za (eC (.int 0)) zg))))))
noncomputable def xk(ds:List D):Rs D:=wg 3 uE ds
noncomputable def vO:FS:=(zu (sIf (tB (eOp eqD (ze 1) (eC (.int 0)))) (yx (eC (.int 8))) zM)
  (zu (yn 2 (eOp ixD (ze 0) (eOp xw (ze 1) (eC (.int 1)))))
  (zu (sIf (tB (eOp inD (ze 2) (eC (.str "_-./")))) (yx (eC (.int 6))) zM)
  (zu (sIf (vm (tB (eOp inD (eOp ixD (ze 0) (ze 1)) (eC (.str "ABCDEFGHIJKLMNOPQRSTUVWXYZ")))) (YO (tB (eOp inD (ze 2) (eC (.str "abcdefghijklmnopqrstuvwxyz")))) (tB (eOp inD (ze 2) (eC (.str "0123456789")))))) (yx (eC (.int 5))) zM)
  (yx (eC (.int 0)))))))
noncomputable def yH(ds:List D):Rs D:=wg 3 vO ds
noncomputable def ZG:FS:=(zu (yn 3 (eIf (tB (eOp eqD (eOp ixD (ze 1) (ze 2)) (ze 0))) (eC (.int 1)) (eC (.int 0))))
  (yx (eOp zQ (eOp zQ (eC (.int 10)) (zv yH (za (ze 1) (za (ze 2) zg)))) (ze 3))))
noncomputable def yE(ds:List D):Rs D:=wg 4 ZG ds
noncomputable def J2:FS:=(yx (eOr (eOp eqD (ze 0) (ze 1)) (Jb (eOp inD (ze 0) (eC (.str "abcdefghijklmnopqrstuvwxyz"))) (eOp eqD (Ja "str" upD (ze 0)) (ze 1)))))
noncomputable def x6(ds:List D):Rs D:=wg 2 J2 ds
noncomputable def v4:FS:=(yx (fun τ=>((wZ 1 [0,1] (ww (za (yv yQ (za (ze 1) zg)) zg)) (gNm 0) (jP (zv x6 (za (ze 1) (za (eOp ixD (ze 2) (ze 0)) zg)))) (yz (za (zv yE (za (ze 1) (za (ze 2) (za (ze 0) zg)))) (za (vB (za (ze 0) zg)) zg)))) τ).bind fun ds=>.ok (.lst ds)))
noncomputable def yk(ds:List D):Rs D:=wg 2 v4 ds
noncomputable def uP:FS:=(zu (yn 1 (eC .non))
  (zu (wR (ja (ze 0)) (gNm 2) (sIf (YO (tB (eOp isD (ze 1) (eC .non))) (tB (eOp gtD (eOp ixD (ze 2) (eC (.int 0))) (eOp ixD (ze 1) (eC (.int 0)))))) (yn 1 (ze 2)) zM))
  (yx (ze 1))))
noncomputable def zY(ds:List D):Rs D:=wg 3 uP ds
noncomputable def jM:FS:=(zu (yn 2 (eOp xw (eOp xw (ze 1) (ze 0)) (eC (.int 1))))
  (zu (sIf (tB (eOp eqD (ze 2) (eC (.int 0)))) (yx (eC (.int 7))) zM)
  (yx (xh (yv Zx (za (ze 2) (za (eC (.int 5)) zg)))))))
noncomputable def xq(ds:List D):Rs D:=wg 3 jM ds
noncomputable def jh:FS:=(yx (fun τ=>((wZ 1 [0] (ja (ze 1)) (gNm 0) (tB (eOp gtD (eOp ixD (eOp ixD (ze 0) (eC (.int 1))) (eC (.int 0))) (ze 1))) (yz (za (eOp zQ (eOp ixD (ze 0) (eC (.int 0))) (zv xq (za (ze 1) (za (eOp ixD (eOp ixD (ze 0) (eC (.int 1))) (eC (.int 0))) zg)))) (za (eOp ixD (ze 0) (eC (.int 1))) zg)))) τ).bind fun ds=>.ok (.lst ds)))
noncomputable def yN(ds:List D):Rs D:=wg 2 jh ds
noncomputable def vM:FS:=(zu (wQ 3 (fun τ=>(zg τ).bind fun ds=>if ds.length≤sizeLine then .ok ds else .no))
  (zu (wR (ww (za (yv yQ (za (ze 1) zg)) zg)) (gNm 4) (sIf (jP (zv x6 (za (ze 0) (za (eOp ixD (ze 1) (ze 4)) zg)))) (zu (yn 5 (zv zY (za (zv yN (za (ze 4) (za (ze 2) zg))) zg)))
  (sIf (tB (eOp uB (ze 5) (eC .non))) (uW 3 (yz (za (eOp zQ (zv yE (za (ze 0) (za (ze 1) (za (ze 4) zg)))) (eOp ixD (ze 5) (eC (.int 0)))) (za (eOp zQ (vB (za (ze 4) zg)) (eOp ixD (ze 5) (eC (.int 1)))) zg)))) zM)) zM))
  (vH 3)))
noncomputable def xf(ds:List D):Rs D:=wg 6 vM ds
noncomputable def jN:FS:=(yx (xh (yv Zx (za (ze 0) (za (eC (.int 3)) zg)))))
noncomputable def y0(ds:List D):Rs D:=wg 1 jN ds
noncomputable def Jf:FS:=(zu (sIf (tB (eOp eqD (yv yQ (za (ze 0) zg)) (eC (.int 0)))) (yx (yz (za (eC (.int 0)) (za (vB zg) zg)))) zM)
  (zu (yn 2 (zv yk (za (eOp ixD (ze 0) (xh (eC (.int 1)))) (za (ze 1) zg))))
  (zu (wR (Vq (za (eOp xw (yv yQ (za (ze 0) zg)) (eC (.int 2))) (za (xh (eC (.int 1))) (za (xh (eC (.int 1))) zg)))) (gNm 3) (yn 2 (zv xf (za (eOp ixD (ze 0) (ze 3)) (za (ze 1) (za (ze 2) zg))))))
  (yx (zv zY (za (fun τ=>((wZ 1 [] (ja (ze 2)) (gNm 0) (fun _=>.ok true) (yz (za (eOp zQ (eOp ixD (ze 0) (eC (.int 0))) (zv y0 (za (eOp ixD (eOp ixD (ze 0) (eC (.int 1))) (eC (.int 0))) zg))) (za (eOp ixD (ze 0) (eC (.int 1))) zg)))) τ).bind fun ds=>.ok (.lst ds)) zg))))))
noncomputable def v7(ds:List D):Rs D:=wg 4 Jf ds
noncomputable def vN:FS:=(zu (wQ 3 (fun τ=>(zg τ).bind fun ds=>if ds.length≤sizeLine then .ok ds else .no))
  (zu (wR (ja (ze 2)) (gNm 4) (zu (yn 5 (zv v7 (za (ze 1) (za (eOp ixD (ze 0) (ze 4)) zg))))
  (sIf (tB (eOp uB (ze 5) (eC .non))) (uW 3 (yz (za (eOp ixD (ze 5) (eC (.int 0))) (za (ze 4) zg)))) zM)))
  (vH 3)))
noncomputable def yO(ds:List D):Rs D:=wg 6 vN ds
noncomputable def j2:FS:=(yx (zv yO (za (ze 0) (za (ze 1) (za (fun τ=>((V9 (ww (za (yv yQ (za (ze 0) zg)) zg))) τ).bind fun ds=>.ok (.lst ds)) zg)))))
noncomputable def wk(ds:List D):Rs D:=wg 2 j2 ds
noncomputable def Vx:FS:=(yx (zv xk (za (ze 0) (za (zv wk (za (ze 0) (za (ze 1) zg))) (za (ze 2) zg)))))
noncomputable def wt(ds:List D):Rs D:=wg 3 Vx ds
noncomputable def Yk:FS:=(yx (eOp inD (ze 0) (eC (.str "_-./"))))
noncomputable def xz(ds:List D):Rs D:=wg 1 Yk ds
noncomputable def ZH:FS:=(zu (yn 4 (eC (.str "")))
  (zu (yn 5 (eC (.int 0)))
  (zu (wR (ww (za (zv zq (za (ze 0) (za (ze 1) (za (eOp zQ (ze 3) (eC (.int 1))) zg)))) zg)) (gNm 6) (zu (yn 5 (yv Zx (za (eOp xw (yv yQ (za (ze 2) zg)) (eC (.int 1))) (za (eOp zQ (ze 5) (zv zq (za (ze 0) (za (eOp zQ (eOp zQ (ze 1) (eC (.int 1))) (eOp vQ (eC (.int 3)) (ze 6))) (za (eC (.int 3)) zg))))) zg))))
  (zu (yn 7 (Ja "str" loD (eOr (eSl (ze 2) (jJ (ze 5)) (jJ (eOp zQ (ze 5) (eC (.int 1))))) (eC (.str "a")))))
  (zu (yn 5 (eOp zQ (ze 5) (eC (.int 1))))
  (zu (sIf (tB (eOp eqD (zv zq (za (ze 0) (za (eOp zQ (eOp zQ (ze 1) (eC (.int 2))) (eOp vQ (eC (.int 3)) (ze 6))) (za (eC (.int 5)) zg)))) (eC (.int 0)))) (yn 7 (eOp ixD (eC (.str "abAB1c")) (zv zq (za (ze 0) (za (eOp zQ (eOp zQ (ze 1) (eC (.int 3))) (eOp vQ (eC (.int 3)) (ze 6))) (za (eC (.int 6)) zg)))))) zM)
  (sIf (VL (jP (zv xz (za (ze 7) zg)))) (yn 4 (eOp zQ (ze 4) (ze 7))) zM))))))
  (yx (ze 4)))))
noncomputable def xM(ds:List D):Rs D:=wg 8 ZH ds
noncomputable def uF:FS:=(yx (zv xM (za (ze 0) (za (ze 1) (za (eOp ixD (eOp zQ (ze 2) (vB (za (eC (.str "abc")) zg))) (zv zq (za (ze 0) (za (eOp zQ (ze 1) (eC (.int 30))) (za (eOp zQ (yv yQ (za (ze 2) zg)) (eC (.int 1))) zg))))) (za (eC (.int 3)) zg))))))
noncomputable def xL(ds:List D):Rs D:=wg 3 uF ds
noncomputable def uc:FS:=(zu (sIf (vm (tB (eOp gtD (vo 0 "Trail" "done") (eC (.int 0)))) (tB (eOp eqD (eOp ixD (XI 0 "Trail" "done" (xh (eC (.int 1)))) (eC (.int 0))) (eC (.str "ask"))))) (yx (eOp ixD (XI 0 "Trail" "done" (xh (eC (.int 1)))) (eC (.int 1)))) zM)
  (yx (eC (.str ""))))
noncomputable def z0(fs:Fs)(ds:List D):Rs D:=Ze 1 0 "Trail" uc fs ds
noncomputable def uJ:FS:=(zu (VS 0 "Trail" "done" (yz (za (ze 1) (za (ze 2) zg))))
  (jD 0 "Trail" "undone" (fun τ=>(zg τ).bind fun ds=>if ds.length≤sizeLine then .ok ds else .no)))
noncomputable def yZ(fs:Fs)(ds:List D):Rs (D×Fs):=vy 3 0 "Trail" uJ fs ds
noncomputable def uK:FS:=(zu (yn 2 (zv wt (za (eAt 0 "Trail" "names") (za (yp 0 "Trail" "asked" z0 zg) (za (yv yQ (za (eAt 0 "Trail" "names") zg)) zg)))))
  (zu (sIf (YO (tB (eOp ltI (ze 1) (eC (.int 0)))) (tB (eOp geD (ze 1) (yv yQ (za (ze 2) zg))))) sNo zM)
  (zu (yn 3 (eOp ixD (eOp ixD (ze 2) (ze 1)) (eC (.int 1))))
  (zu (xj (xS 0 "Trail" "step" yZ (za (eC (.str "pick")) (za (ze 3) zg))))
  (xP (ze 3))))))
noncomputable def wu(fs:Fs)(ds:List D):Rs (D×Fs):=vy 4 0 "Trail" uK fs ds
noncomputable def v5:FS:=(zu (wQ 2 (fun τ=>(zg τ).bind fun ds=>if ds.length≤sizeLine then .ok ds else .no))
  (zu (wR (ww (za (yv yQ (za (ze 1) zg)) zg)) (gNm 3) (sIf (vm (tB (eOp ltI (uO 2) (yv yQ (za (ze 0) zg)))) (jP (zv x6 (za (eOp ixD (ze 0) (uO 2)) (za (eOp ixD (ze 1) (ze 3)) zg))))) (uW 2 (ze 3)) zM))
  (vH 2)))
noncomputable def yT(ds:List D):Rs D:=wg 4 v5 ds
noncomputable def M2:FS:=(yx (eOp eqD (yv yQ (za (zv yT (za (ze 0) (za (ze 1) zg))) zg)) (yv yQ (za (ze 0) zg))))
noncomputable def u8(ds:List D):Rs D:=wg 2 M2 ds
noncomputable def jk:FS:=(zu (xj (xS 0 "Trail" "step" yZ (za (eC (.str "ask")) (za (ze 1) zg))))
  (xP (yv yQ (za (fun τ=>((wZ 1 [1] (ja (eAt 0 "Trail" "names")) (gNm 0) (jP (zv u8 (za (ze 1) (za (ze 0) zg)))) (ze 0)) τ).bind fun ds=>.ok (.lst ds)) zg))))
noncomputable def wM(fs:Fs)(ds:List D):Rs (D×Fs):=vy 2 0 "Trail" jk fs ds
noncomputable def ji:FS:=(zu (yn 4 (zv wt (za (ze 3) (za (yp 2 "Trail" "asked" z0 zg) (za (yv yQ (za (ze 3) zg)) zg)))))
  (sIf (vm (tB (eOp neD (ze 4) (vB zg))) (tB (eOp eqD (zv zq (za (ze 0) (za (ze 1) (za (eC (.int 3)) zg)))) (eC (.int 0))))) (xj (xS 2 "Trail" "pick" wu (za (zv zq (za (ze 0) (za (eOp zQ (ze 1) (eC (.int 1))) (za (yv yQ (za (ze 4) zg)) zg)))) zg))) (xj (xS 2 "Trail" "ask" wM (za (zv xL (za (ze 0) (za (eOp zQ (ze 1) (eC (.int 2))) (za (ze 3) zg)))) zg)))))
noncomputable def yP(fs:Fs)(ds:List D):Rs (D×Fs):=vy 5 2 "Trail" ji fs ds
noncomputable def vP:FS:=(zu (wQ 1 (fun τ=>(zg τ).bind fun ds=>if ds.length≤sizeLine then .ok ds else .no))
  (zu (yn 2 (eC (.str "")))
  (zu (Wo 0 "Trail" "done" (gPr 3 4) (zu (sIf (tB (eOp eqD (ze 3) (eC (.str "pick")))) (uW 1 (yz (za (ze 2) (za (ze 4) zg)))) zM)
  (yn 2 (eIf (tB (eOp eqD (ze 3) (eC (.str "ask")))) (ze 4) (eC (.str ""))))))
  (vH 1))))
noncomputable def xu(fs:Fs)(ds:List D):Rs D:=Ze 5 0 "Trail" vP fs ds
noncomputable def v9:FS:=(yx (fun τ=>((wZ 2 [] (iOw 0 "Trail" "done") (gPr 0 1) (fun _=>.ok true) (yz (za (ze 0) (za (ze 1) zg)))) τ).bind fun ds=>.ok (.lst ds)))
noncomputable def yA(fs:Fs)(ds:List D):Rs D:=Ze 1 0 "Trail" v9 fs ds
noncomputable def j3:FS:=(yx (yz (za (yp 0 "Trail" "asked" z0 zg) (za (yp 0 "Trail" "chosen" xu zg) (za (yp 0 "Trail" "steps" yA zg) zg)))))
noncomputable def zK(fs:Fs)(ds:List D):Rs D:=Ze 1 0 "Trail" j3 fs ds
noncomputable def ua:FS:=(yx (yz (za (vo 0 "Trail" "done") (za (vo 0 "Trail" "undone") zg))))
noncomputable def zG(fs:Fs)(ds:List D):Rs D:=Ze 1 0 "Trail" ua fs ds
noncomputable def uH:FS:=(zu (wR (ww (za (eC (.int 2)) zg)) (gNm 3) (xj (vW 1 "Trail" yP (za (ze 0) (za (eOp zQ (eC (.int 600)) (eOp vQ (eC (.int 50)) (ze 3))) zg)) (za (ze 2) zg))))
  (xP (yz (za (wC 1 "Trail" zK zg zg) (za (yp 1 "Trail" "sizes" zG zg) zg)))))
noncomputable def xN(fs:Fs)(ds:List D):Rs (D×Fs):=vy 4 1 "Trail" uH fs ds
noncomputable def uL:FS:=(zu (sIf (tB (eOp eqD (vo 0 "Trail" "done") (eC (.int 0)))) sNo zM)
  (zu (vx 0 "Trail" "undone" "done")
  (xP (eOp ixD (XI 0 "Trail" "undone" (xh (eC (.int 1)))) (eC (.int 0))))))
noncomputable def yf(fs:Fs)(ds:List D):Rs (D×Fs):=vy 1 0 "Trail" uL fs ds
noncomputable def ub:FS:=(zu (sIf (tB (eOp eqD (vo 0 "Trail" "undone") (eC (.int 0)))) sNo zM)
  (zu (vx 0 "Trail" "done" "undone")
  (xP (eOp ixD (XI 0 "Trail" "done" (xh (eC (.int 1)))) (eC (.int 0))))))
noncomputable def yo(fs:Fs)(ds:List D):Rs (D×Fs):=vy 1 0 "Trail" ub fs ds
noncomputable def jj:FS:=(zu (yn 2 (eOp xw (yv yQ (za (ze 1) zg)) (eC (.int 1))))
  (zu (yn 3 fun τ=>((wZ 1 [] (ja (yp 0 "Trail" "steps" yA zg)) (gNm 0) (fun _=>.ok true) (eOp ixD (ze 0) (eC (.int 0)))) τ).bind fun ds=>.ok (.lst ds))
  (zu (wR (Vq (za (eOp xw (ze 2) (eC (.int 1))) (za (xh (eC (.int 1))) (za (xh (eC (.int 1))) zg)))) (gNm 4) (zu (ZQ (Xh (oB (oOp neD (xS 0 "Trail" "back" yf zg) (eOp ixD (ze 3) (ze 4)))) (ZV (tB (eOp neD (wC 0 "Trail" zK zg zg) (eOp ixD (ze 1) (ze 4)))))) (xP (eC (.bl false))) zM)
  (sIf (tB (eOp neD (yp 0 "Trail" "sizes" zG zg) (yz (za (ze 4) (za (eOp xw (ze 2) (ze 4)) zg))))) (xP (eC (.bl false))) zM)))
  (zu (wR (QH (za (eC (.int 1)) (za (eOp zQ (ze 2) (eC (.int 1))) zg))) (gNm 4) (zu (ZQ (Xh (oB (oOp neD (xS 0 "Trail" "forth" yo zg) (eOp ixD (ze 3) (eOp xw (ze 4) (eC (.int 1)))))) (ZV (tB (eOp neD (wC 0 "Trail" zK zg zg) (eOp ixD (ze 1) (ze 4)))))) (xP (eC (.bl false))) zM)
  (sIf (tB (eOp neD (yp 0 "Trail" "sizes" zG zg) (yz (za (ze 4) (za (eOp xw (ze 2) (ze 4)) zg))))) (xP (eC (.bl false))) zM)))
  (xP (eC (.bl true)))))))
noncomputable def wl(fs:Fs)(ds:List D):Rs (D×Fs):=vy 5 0 "Trail" jj fs ds
noncomputable def uI:FS:=(zu (Zd 1 "Trail" ya (za (eAt 0 "Trail" "names") zg))
  (zu (jD 1 "Trail" "done" (iOw 0 "Trail" "done"))
  (zu (jD 1 "Trail" "undone" (iOw 0 "Trail" "undone"))
  (Ju 1 "Trail"))))
noncomputable def yK(fs:Fs)(ds:List D):Rs Fs:=Gf 2 0 "Trail" "Trail" uI fs ds
noncomputable def M1:FS:=(zu (yn 1 (zv xl (za (ze 0) (za (eC (.int 0)) (za (eC (.int 4)) zg)))))
  (zu (Zd 2 "Trail" ya (za (ze 1) zg))
  (zu (wQ 3 (fun τ=>((za (wC 2 "Trail" zK zg zg) zg) τ).bind fun ds=>if ds.length≤sizeLine then .ok ds else .no))
  (zu (wR (ww (za (eOp zQ (eC (.int 2)) (zv zq (za (ze 0) (za (eC (.int 99)) (za (eC (.int 6)) zg))))) zg)) (gNm 4) (zu (xj (vW 2 "Trail" yP (za (ze 0) (za (eOp zQ (eC (.int 100)) (eOp vQ (eC (.int 50)) (ze 4))) zg)) (za (ze 1) zg)))
  (uW 3 (wC 2 "Trail" zK zg zg))))
  (zu (yn 5 (eOp xw (uO 3) (eC (.int 1))))
  (fun τ=>(zu (ZQ (Xh (ZV (tB (eOp neD (yp 2 "Trail" "sizes" zG zg) (yz (za (ze 5) (za (eC (.int 0)) zg)))))) (V6 (oB (vW 2 "Trail" wl zg (za (ze 3) zg))))) (yx (eC (.bl false))) zM)
  (zu (yn 6 (eOp zQ (eC (.int 1)) (zv zq (za (ze 0) (za (eC (.int 98)) (za (ze 5) zg))))))
  (zu (wR (ww (za (ze 6) zg)) (gNm 7) (xj (xS 2 "Trail" "back" yf zg)))
  (zu (yn 8 (yz (za (wC 2 "Trail" zK zg zg) (za (yp 2 "Trail" "sizes" zG zg) zg))))
  (zu (Zc 9 2 "Trail" "twin" "Trail" yK)
  (zu (Zc 10 9 "Trail" "twin" "Trail" yK)
  (zu (sIf (tB (eOp neD (ze 8) (yz (za (eOp ixD (ze 3) (eOp xw (ze 5) (ze 6))) (za (yz (za (eOp xw (ze 5) (ze 6)) (za (ze 6) zg))) zg))))) (yx (eC (.bl false))) zM)
  (zu (Wn 11 (vW 2 "Trail" xN (za (ze 0) zg) (za (ze 1) zg)))
  (zu (sIf (YO (tB (eOp neD (eOp ixD (ze 11) (eC (.int 1))) (yz (za (eOp zQ (eOp xw (ze 5) (ze 6)) (eC (.int 2))) (za (eC (.int 0)) zg))))) (tB (eOp neD (yz (za (wC 9 "Trail" zK zg zg) (za (yp 9 "Trail" "sizes" zG zg) zg))) (ze 8)))) (yx (eC (.bl false))) zM)
  (zu (ZQ (oB (oOp neD (vW 9 "Trail" xN (za (ze 0) zg) (za (ze 1) zg)) (ze 11))) (yx (eC (.bl false))) zM)
  (zu (sIf (tB (eOp neD (yz (za (wC 10 "Trail" zK zg zg) (za (yp 10 "Trail" "sizes" zG zg) zg))) (ze 8))) (yx (eC (.bl false))) zM)
  (zu (wR (ww (za (ze 6) zg)) (gNm 7) (xj (xS 10 "Trail" "forth" yo zg)))
  (zu (wR (ww (za (eOp zQ (eOp xw (ze 5) (ze 6)) (eC (.int 2))) zg)) (gNm 7) (ZQ (Xh (oB (Qv neD (xS 9 "Trail" "back" yf zg) (xS 2 "Trail" "back" yf zg))) (ZV (tB (eOp neD (wC 9 "Trail" zK zg zg) (wC 2 "Trail" zK zg zg))))) (yx (eC (.bl false))) zM))
  (yx (Jb (eOp eqD (wC 10 "Trail" zK zg zg) (eOp ixD (ze 3) (xh (eC (.int 1))))) (Jb (eOp eqD (wC 9 "Trail" zK zg zg) (yz (za (eC (.str "")) (za (vB zg) (za (vB zg) zg))))) (eOp eqD (yp 10 "Trail" "sizes" zG zg) (yz (za (ze 5) (za (eC (.int 0)) zg)))))))))))))))))))) (Z4 τ)))))))
noncomputable def JK(ds:List D):Rs D:=wg 12 M1 ds
noncomputable def Yh(ns:List Int)(k:Int):Int:=if ns=[] then 7*k else ns.getD (k%ns.length).toNat 0+6553*(k / ns.length)
theorem z6:sizeLine=16777216:=sizeLine_eq
theorem LC(ns:List Int)(k:Int)(h63:ns.length≤63)(h0:0≤k):wL [.scr ns,.int k]=.ok (.int (Yh ns k)):=by
 have st:yc 2 [D.scr ns,.int k]=[some (.val (.scr ns)),some (.val (.int k))]:=rfl
 unfold wL Yl
 rw[yj,st]
 simp only[zW,yG,x9,yg,zJ,Vs,zA,getElem?_cons_zero,zF,Rs.bind_ok,length_nil,zero_le,if_true,Ur,z5,Fl.of_ok]
 cases ns with
 |nil=>
  simp only[List.isEmpty_nil,if_true,yb,yg,yU,zJ,getElem?_cons_zero,getElem?_cons_succ,zF,Rs.bind_ok,vK (i:=7) (j:=k) (.inl ⟨by decide,by decide⟩),Fl.of_ok,ZM,zZ,Yh]
 |cons a r=>
  have hl:(0:Int)<((a::r).length:Int):=by simp only[length_cons];lia
  have hm0:=emod_nonneg k (show((a::r).length:Int)≠0 by lia)
  have hm1:=Int.emod_lt_of_pos k hl
  have hat:atI (a::r) (k%((a::r).length:Int))=some ((a::r).getD (k%((a::r).length:Int)).toNat 0):=by
   refine jl hm0 ?_
   have:(k%((a::r).length:Int)).toNat<(a::r).length:=by lia
   rw[getD_eq_getElem?_getD,getElem?_eq_getElem this];rfl
  have hdv:XE (.int k) (.int ((a::r).length:Int))=.ok (.int (k / ((a::r).length:Int))):=YI ⟨hl,by lia⟩
  have hmd:Vi (.int k) (.int ((a::r).length:Int))=.ok (.int (k%((a::r).length:Int))):=Xj hl
  have hml:=vK (i:=6553) (j:=k / ((a::r).length:Int)) (.inl ⟨by decide,by decide⟩)
  simp only[List.isEmpty_cons,Bool.false_eq_true,if_false,z8,ym,yb,yg,yU,zJ,wY,zC,zA,getElem?_cons_zero,getElem?_cons_succ,zF,Rs.bind_ok,Mm,hmd,hdv,hml,Ln hat,yI,Fl.of_ok,zZ]
  simp[Yh]
noncomputable def d1(ns:List Int)(k:Int):Int:=(Yh ns k%2147483563*69069+104723*(k+1))%2147483563
noncomputable def d2(ns:List Int)(k:Int):Int:=(d1 ns k*d1 ns k+d1 ns k / 3)%2147483399
noncomputable def x8(ns:List Int)(k m:Int):Int:=(d2 ns k*d2 ns k+d2 ns k / 7)%2147483647 / 11%m
theorem wx(ns:List Int)(k m:Int)(h63:ns.length≤63)(h0:0≤k)(hk:k<1000000)(hm:0<m):zq [.scr ns,.int k,.int m]=.ok (.int (x8 ns k m)):=by
 have st:yc 4 [D.scr ns,.int k,.int m]=[some (.val (.scr ns)),some (.val (.int k)),some (.val (.int m)),none]:=rfl
 have b1:0≤d1 ns k∧d1 ns k<2147483563:=⟨emod_nonneg _ (by decide),Int.emod_lt_of_pos _ (by decide)⟩
 have b2:0≤d2 ns k∧d2 ns k<2147483399:=⟨emod_nonneg _ (by decide),Int.emod_lt_of_pos _ (by decide)⟩
 have c0:=Int.emod_lt_of_pos (Yh ns k) (show(0:Int)<2147483563 by decide)
 have c1:=emod_nonneg (Yh ns k) (show(2147483563:Int)≠0 by decide)
 have q1:=vK (i:=Yh ns k%2147483563) (j:=69069) (.inr ⟨by decide,by decide⟩)
 have q2:=vK (i:=104723) (j:=k+1) (.inl ⟨by decide,by decide⟩)
 have q3:=vK (i:=d1 ns k) (j:=d1 ns k) (.inl ⟨by lia,by lia⟩)
 have q4:=vK (i:=d2 ns k) (j:=d2 ns k) (.inl ⟨by lia,by lia⟩)
 have e1:(Yh ns k%2147483563*69069+104723*(k+1))%2147483563=d1 ns k:=rfl
 have e2:(d1 ns k*d1 ns k+d1 ns k / 3)%2147483399=d2 ns k:=rfl
 have m1:=fun i=>Xj (i:=i) (j:=2147483563) (by decide)
 have m2:=fun i=>Xj (i:=i) (j:=2147483399) (by decide)
 have m3:=fun i=>Xj (i:=i) (j:=2147483647) (by decide)
 have m4:=fun i=>Xj (i:=i) (j:=m) hm
 have f3:=fun i=>YI (i:=i) (j:=3) ⟨by decide,by decide⟩
 have f7:=fun i=>YI (i:=i) (j:=7) ⟨by decide,by decide⟩
 have f11:=fun i=>YI (i:=i) (j:=11) ⟨by decide,by decide⟩
 unfold zq ZI
 rw[yj,st]
 simp only[zW,yd,yb,yg,zJ,yU,yF,zC,zA,getElem?_cons_zero,getElem?_cons_succ,zF,Rs.bind_ok,LC ns k h63 h0,xK,m1,q1,yI,q2,e1,Fl.of_ok,ym,set_cons_succ,set_cons_zero,q3,f3,m2,e2,q4,f7,m3,f11,m4,zZ]
 rfl
theorem wF(ns:List Int)(k:Int){m:Int}(hm:0<m):0≤x8 ns k m∧x8 ns k m<m:=⟨emod_nonneg _ (by lia),Int.emod_lt_of_pos _ hm⟩
end Law
set_option Elab.async false
set_option linter.all false
namespace FD
open PySem PySem.Spec PyProof.Rows L2
theorem Wv{set:FG}{body:FS}(f:Nat→D)(S:Nat→DS):∀(m j:Nat),(∀k,j≤k→k<j+m→∃τ1,set (f k) (S k)=.ok τ1∧body τ1=.nx (S (k+1)))→yJ set body ((List.range' j m).map f) (S j)=.nx (S (j+m)):=by
 intro l_
 induction l_ with
 |zero=>
  rintro j _
  exact rfl
 |succ m ih_=>
  rintro j h
  obtain⟨τ1,h1,h2⟩:=h j (le_refl _) (by lia)
  rw[range'_succ,map_cons,yJ,h1,Fl.of_ok]
  simp only[h2]
  rw[ih_ (j+1) fun k hk hk2=>h k (by lia) (by lia)]
  congr 2;lia
theorem UY{set:FG}{body:FS}(f:Nat→D)(S:Nat→DS)(n:Nat)(h:∀k,k<n→∃τ1,set (f k) (S k)=.ok τ1∧body τ1=.nx (S (k+1))):yJ set body ((List.range n).map f) (S 0)=.nx (S n):=by
 have:=Wv f S n 0 fun k _ hk=>h k (by lia)
 rw[zero_add] at this
 rwa [List.range_eq_range']
theorem WW{fs:FA}{τ:DS}{j:Int}(h:fs τ=.ok [.int j])(h1 : -(2 ^ 62)≤j)(h2:j<2 ^ 62):ww fs τ=.ok (uR 0 j.toNat):=by
 unfold ww
 rw[h]
 simp only[Rs.bind_ok,U0]
 rw[if_pos ⟨h1,h2⟩]
theorem Jn(a:List Nat)(c:Nat):(⟨a.toArray⟩:Str)++(⟨#[c]⟩:Str)=⟨(a++[c]).toArray⟩:=by
 show Str.mk _=_
 simp
theorem vd{n:Nat}{d:D}{τ:DS}:gNm n d τ=.ok (τ.set n (some (.val d))):=rfl
end FD
namespace Law
open PySem PySem.Spec PyProof.Rows L2 FD
noncomputable def A18:List Nat:=[97,98,99,97,98,65,66,67,97,98,49,95,45,46,47,120,121,122]
noncomputable def Wu(ns:List Int)(a:Int):Nat:=(1+x8 ns a 10).toNat
noncomputable def G8(ns:List Int)(a:Int)(k:Nat):Nat:=A18.getD (x8 ns (a+1+k) 18).toNat 0
noncomputable def vX(ns:List Int)(a:Int)(n:Nat):List Nat:=(List.range n).map (G8 ns a)
theorem a18:("abcabABCab1_-./xyz" : Str).cps.toList=A18:=by decide +kernel
theorem Lc(ns:List Int)(a:Int)(h63:ns.length≤63)(h0:0≤a)(ha:a<900000):xx [.scr ns,.int a]=.ok (.str ⟨(vX ns a (Wu ns a)).toArray⟩):=by
 have st:yc 4 [D.scr ns,.int a]=[some (.val (.scr ns)),some (.val (.int a)),none,none]:=rfl
 have dl:=wF ns a (m:=10) (by decide)
 unfold xx Yj
 rw[yj,st,zW,yd,yU,Fl.of_ok,ym,zW,xY]
 have r1:=WW (fs:=za (eOp zQ (eC (.int 1)) (zv zq (za (ze 0) (za (ze 1) (za (eC (.int 10)) zg))))) zg) (τ:=[some (.val (.scr ns)),some (.val (.int a)),some (.val (.str "")),none]) (j:=1+x8 ns a 10)
  (by simp only[zC,zA,yg,yU,yF,zJ,getElem?_cons_zero,getElem?_cons_succ,zF,Rs.bind_ok,wx ns a 10 h63 h0 (by lia) (by decide),xK,yI]) (by lia) (by lia)
 simp only[set_cons_succ,set_cons_zero]
 rw[r1,Fl.of_ok]
 let S:Nat→DS:=fun k=>[some (.val (.scr ns)),some (.val (.int a)),some (.val (.str ⟨(vX ns a k).toArray⟩)),if k=0 then none else some (.val (.int ((k:Int)-1)))]
 have s0:S 0=[some (.val (.scr ns)),some (.val (.int a)),some (.val (.str "")),none]:=by
  simp only[S,vX,List.range_zero,map_nil,if_true]
  rfl
 rw[← s0]
 have lp:=UY (set:=gNm 3) (body:=(yn 2 (eOp zQ (ze 2) (eOp ixD (eC (.str "abcabABCab1_-./xyz")) (zv zq (za (ze 0) (za (eOp zQ (eOp zQ (ze 1) (eC (.int 1))) (ze 3)) (za (eC (.int 18)) zg)))))))) (fun (k:Nat)=>D.int (0+k)) S (1+x8 ns a 10).toNat fun k hk=>by
  refine⟨_,vd,?_⟩
  have hk':(k:Int)<20:=by lia
  have dk:=wF ns (a+1+(0+(k:Int))) (m:=18) (by decide)
  have hd:=wx ns (a+1+(0+(k:Int))) 18 h63 (by lia) (by lia) (by decide)
  have hix:=YG (a := "abcabABCab1_-./xyz") (k:=x8 ns (a+1+(0+(k:Int))) 18) (c:=A18.getD (x8 ns (a+1+(0+(k:Int))) 18).toNat 0) (jl dk.1 (by
   rw[a18]
   have:(x8 ns (a+1+(0+(k:Int))) 18).toNat<A18.length:=by
    have:A18.length=18:=rfl
    lia
   rw[getD_eq_getElem?_getD,getElem?_eq_getElem this];rfl)) (by decide +kernel)
  have hadd:=M5 (a:=⟨(vX ns a k).toArray⟩) (b:=⟨#[A18.getD (x8 ns (a+1+(0+(k:Int))) 18).toNat 0]⟩) (by
   show(vX ns a k).toArray.size+1≤sizeLine
   rw[z6,size_toArray]
   simp only[vX,length_map,length_range];lia)
  simp only[S,set_cons_succ,set_cons_zero,yd,yg,yU,yF,zC,zA,zJ,getElem?_cons_zero,getElem?_cons_succ,zF,Rs.bind_ok,yI,hd,xK,hix,yh,hadd,Fl.of_ok,Jn]
  have e1:vX ns a k++[A18.getD (x8 ns (a+1+(0+(k:Int))) 18).toNat 0]=vX ns a (k+1):=by
   simp only[vX,range_succ,map_append,map_cons,map_nil,G8,Int.zero_add]
  rw[e1]
  simp
 unfold uR
 rw[lp,ym]
 simp only[S,yb,zJ,getElem?_cons_zero,getElem?_cons_succ,zF,Fl.of_ok,zZ]
 rfl
end Law
set_option Elab.async false
set_option linter.all false
namespace FD
open PySem PySem.Spec PyProof.Rows L2
theorem Ua{set:FG}{body:FS}(f:Nat→D)(I:Nat→DS→Prop):∀(m j:Nat) (τ:DS),I j τ→(∀k τ,j≤k→k<j+m→I k τ→∃τ1 τ2,set (f k) τ=.ok τ1∧body τ1=.nx τ2∧I (k+1) τ2)→∃τ',yJ set body ((List.range' j m).map f) τ=.nx τ'∧I (j+m) τ':=by
 intro l_
 induction l_ with
 |zero=>
  rintro j τ h _
  exact⟨τ,rfl,h⟩
 |succ m ih_=>
  rintro j τ h hs
  refine byc fun zG=>?_
  obtain⟨τ1,τ2,h1,h2,h3⟩:=hs j τ (le_refl _) (by lia) h
  obtain⟨τ',h4,h5⟩:=ih_ (j+1) τ2 h3 fun k τ hk hk2=>hs k τ (by lia) (by lia)
  refine zG ?_
  refine⟨τ',?_,by rw[show j+(m+1)=j+1+m by lia];exact h5⟩
  rw[range'_succ,map_cons,yJ,h1,Fl.of_ok]
  simp only[h2,h4]
theorem wv{set:FG}{body:FS}(f:Nat→D)(I:Nat→DS→Prop)(n:Nat)(τ:DS)(h0:I 0 τ)(h:∀k τ,k<n→I k τ→∃τ1 τ2,set (f k) τ=.ok τ1∧body τ1=.nx τ2∧I (k+1) τ2):∃τ',yJ set body ((List.range n).map f) τ=.nx τ'∧I n τ':=by
 obtain⟨τ',h1,h2⟩:=Ua f I n 0 τ h0 fun k τ _ hk hi=>h k τ (by lia) hi
 rw[zero_add] at h2
 exact⟨τ',by rw[List.range_eq_range'];exact h1,h2⟩
end FD
namespace Law
open PySem PySem.Spec PyProof.Rows L2 FD
noncomputable def QS:List Nat:=[97,98,99,120,121,122,65,66,49]
noncomputable def MK:List Nat:=[95,45,46,47]
theorem Qx:("_-./" : Str).cps.toList=MK:=by decide +kernel
theorem Ld(c:Nat):xz [yh c]=.ok (.bl (decide (c∈MK))):=by
 have st:yc 1 [yh c]=[some (.val (yh c))]:=rfl
 unfold xz Yk
 rw[yj,st]
 simp only[yb,yg,zJ,yU,getElem?_cons_zero,zF,Rs.bind_ok,yh,Xx,w5,Qx,Fl.of_ok,zZ]
theorem Q8(x:List Nat){i j:Int}(h0:0≤i)(h1:i≤j)(h2:j≤x.length):Txt.slice (⟨x.toArray⟩:Str) (some i) (some j)=⟨((x.drop i.toNat).take (j-i).toNat).toArray⟩:=by
 have:=slice_closesL (x:=⟨x.toArray⟩) (i:=i) (j:=j) h0 h1 (by show j≤((x.toArray.size:Nat):Int);simpa using h2)
 exact eq_of_beq this
theorem Qc(x:List Nat)(p:Nat)(hp:p<x.length):Txt.slice (⟨x.toArray⟩:Str) (some (p:Int)) (some ((p:Int)+1))=⟨#[x[p]]⟩:=by
 rw[Q8 x (by lia) (by lia) (by lia)]
 have e1:((p:Int)+1-(p:Int)).toNat=1:=by lia
 have e2:((p:Int)).toNat=p:=by lia
 rw[e1,e2,drop_eq_getElem_cons hp]
 rfl
theorem Qz(c:Nat)(h:c<128):Txt.lower (⟨#[c]⟩:Str)=⟨#[lo1 c]⟩:=by
 rw[lower_ascii (x:=⟨#[c]⟩) (by intro d hd;have e:d=c:=(by simpa using hd);lia)]
 simp
noncomputable def NS:List Nat:=[97,98,99,65,66,67,49,95,45,46,47,120,121,122]
theorem Qw(ns:List Int)(a:Int)(k:Nat)(h:0≤a+1+k):G8 ns a k∈NS:=by
 have d:=wF ns (a+1+k) (m:=18) (by decide)
 have hall:∀n,n<18→A18.getD n 0∈NS:=by decide
 exact hall _ (by lia)
noncomputable def S6:List Nat:=[97,98,65,66,49,99]
theorem s6_l:("abAB1c" : Str).cps.toList=S6:=by decide +kernel
theorem JP:∀c∈NS,c<128∧(lo1 c∈QS∨lo1 c∈MK):=by decide
theorem Tt:∀n,n<6→S6.getD n 0∈QS:=by decide
set_option maxHeartbeats 1000000
noncomputable def VV:FS:=(zu (yn 5 (yv Zx (za (eOp xw (yv yQ (za (ze 2) zg)) (eC (.int 1))) (za (eOp zQ (ze 5) (zv zq (za (ze 0) (za (eOp zQ (eOp zQ (ze 1) (eC (.int 1))) (eOp vQ (eC (.int 3)) (ze 6))) (za (eC (.int 3)) zg))))) zg))))
  (zu (yn 7 (Ja "str" loD (eOr (eSl (ze 2) (jJ (ze 5)) (jJ (eOp zQ (ze 5) (eC (.int 1))))) (eC (.str "a")))))
  (zu (yn 5 (eOp zQ (ze 5) (eC (.int 1))))
  (zu (sIf (FD.tB (eOp eqD (zv zq (za (ze 0) (za (eOp zQ (eOp zQ (ze 1) (eC (.int 2))) (eOp vQ (eC (.int 3)) (ze 6))) (za (eC (.int 5)) zg)))) (eC (.int 0)))) (yn 7 (eOp ixD (eC (.str "abAB1c")) (zv zq (za (ze 0) (za (eOp zQ (eOp zQ (ze 1) (eC (.int 3))) (eOp vQ (eC (.int 3)) (ze 6))) (za (eC (.int 6)) zg)))))) zM)
  (sIf (VL (jP (zv xz (za (ze 7) zg)))) (yn 4 (eOp zQ (ze 4) (ze 7))) zM)))))
noncomputable def qSt(ns:List Int)(a:Int)(x:List Nat)(most:Int)(q:List Nat)(p:Int)(s1 s2:Option Sl):DS:=
 [some (.val (.scr ns)),some (.val (.int a)),some (.val (.str ⟨x.toArray⟩)),some (.val (.int most)),some (.val (.str ⟨q.toArray⟩)),some (.val (.int p)),s1,s2]
theorem UK(ns:List Int)(a:Int)(x:List Nat)(most:Int)(q:List Nat)(p:Int)(k:Nat)(s2:Option Sl)(h63:ns.length≤63)(h0:0≤a)(ha:a<900000)(hk:k<100)(hx0:0<x.length)(hx1:x.length≤100)(hx:∀c∈x,c∈NS)(hq:q.length≤100)(hqs:∀c∈q,c∈QS)(hp:0≤p) :
  ∃q' p' s',VV (qSt ns a x most q p (some (.val (.int (0+k)))) s2)=.nx (qSt ns a x most q' p' (some (.val (.int (0+k)))) s')∧q'.length≤q.length+1∧(∀c∈q',c∈QS)∧0≤p':=by
 have hl:((⟨x.toArray⟩:Str).length:Int)=x.length:=by show((x.toArray.size:Nat):Int)=_;simp
 have hsz:(⟨x.toArray⟩:Str).length≤sizeLine:=by rw[z6];show x.toArray.size≤_;simp;lia
 have m3:=vK (i:=3) (j:=0+(k:Int)) (.inl ⟨by decide,by decide⟩)
 have g1:=wx ns (a+1+3*(0+(k:Int))) 3 h63 (by lia) (by lia) (by decide)
 have g2:=wx ns (a+2+3*(0+(k:Int))) 5 h63 (by lia) (by lia) (by decide)
 have g3:=wx ns (a+3+3*(0+(k:Int))) 6 h63 (by lia) (by lia) (by decide)
 have b1:=wF ns (a+1+3*(0+(k:Int))) (m:=3) (by decide)
 have b3:=wF ns (a+3+3*(0+(k:Int))) (m:=6) (by decide)
 generalize x8 ns (a+1+3*(0+(k:Int))) 3=e1 at *
 generalize x8 ns (a+2+3*(0+(k:Int))) 5=e2 at *
 generalize x8 ns (a+3+3*(0+(k:Int))) 6=e3 at *
 obtain⟨n,hn,hmin⟩:∃n:Nat,n<x.length∧(if p+e1<(x.length:Int)-1 then p+e1 else (x.length:Int)-1)=(n:Int):=by
  by_cases h:p+e1<(x.length:Int)-1
  ·exact⟨(p+e1).toNat,by lia,by rw[if_pos h];lia⟩
  ·exact⟨x.length-1,by lia,by rw[if_neg h];lia⟩
 have hmn:Zx [.int ((x.length:Int)-1),.int (p+e1)]=.ok (.int n):=by
  simp only[Zx,Vo];rw[hmin]
 have hsl:slD (.str ⟨x.toArray⟩) (some (n:Int)) (some ((n:Int)+1))=.ok (.str ⟨#[x[n]]⟩):=by
  simp only[slD]
  rw[if_pos hsz,Qc x n hn]
 have hxn:=hx x[n] (getElem_mem hn)
 have hlo:loD (.str ⟨#[x[n]]⟩) []=.ok (.str ⟨#[lo1 x[n]]⟩):=by
  simp only[loD]
  rw[if_pos (by show 1≤5000000;decide),Qz _ (JP _ hxn).1]
 have htr:ZL (.str ⟨#[x[n]]⟩)=.ok true:=by
  rw[Q1 (by rw[z6];show 1≤_;decide)];rfl
 have hix:ixD (.str "abAB1c") (.int e3)=.ok (yh (S6.getD e3.toNat 0)):=YG (jl b3.1 (by
   rw[s6_l]
   have:e3.toNat<S6.length:=by show e3.toNat<6;lia
   rw[getD_eq_getElem?_getD,getElem?_eq_getElem this];rfl)) (by decide +kernel)
 have key:∀c:Nat,(c∈QS∨c∈MK)→∃q' s',(sIf (VL (jP (zv xz (za (ze 7) zg)))) (yn 4 (eOp zQ (ze 4) (ze 7))) zM) (qSt ns a x most q ((n:Int)+1) (some (.val (.int (0+k)))) (some (.val (yh c))))=.nx (qSt ns a x most q' ((n:Int)+1) (some (.val (.int (0+k)))) s')∧q'.length≤q.length+1∧∀c∈q',c∈QS:=fun c hc=>by
  have hadd:=M5 (a:=⟨q.toArray⟩) (b:=⟨#[c]⟩) (by
   show q.toArray.size+1≤sizeLine
   rw[z6,size_toArray];lia)
  simp only[qSt,yG,Td,vR,yF,zC,zA,zJ,getElem?_cons_zero,getElem?_cons_succ,zF,Rs.bind_ok,Ld,xK,vq,Fl.of_ok]
  by_cases hm:c∈MK
  ·exact⟨q,some (.val (yh c)),by simp only[hm,decide_true,Bool.not_true,Bool.false_eq_true,if_false,z8],by lia,hqs⟩
  ·refine⟨q++[c],some (.val (yh c)),by simp only[hm,decide_false,Bool.not_false,if_true,yd,yg,zJ,getElem?_cons_zero,getElem?_cons_succ,zF,Rs.bind_ok,yh,hadd,Fl.of_ok,set_cons_succ,set_cons_zero,Jn],by simp,fun d hd=>?_⟩
   rcases mem_append.mp hd with h|h
   ·exact hqs d h
   ·have:d=c:=by simpa using h
    subst this
    exact hc.resolve_right hm
 unfold VV
 simp only[qSt,zW,yd,wY,zC,zA,yg,zJ,yU,yF,getElem?_cons_zero,getElem?_cons_succ,zF,Rs.bind_ok,Ue hsz,hl,wa,yI,m3,g1,xK,hmn,Fl.of_ok,set_cons_succ,set_cons_zero,ym,
  JZ,MS,MR,V5,VO,hsl,htr,if_true,Wb,decide_true,hlo,yG,x9,g2,vL,z5]
 by_cases hz:e2=0
 ·subst hz
  refine byc fun zG=>?_
  obtain⟨q',s',h1,h2,h3⟩:=key (S6.getD e3.toNat 0) (.inl (Tt _ (by lia)))
  refine zG ?_
  simp only[qSt] at h1
  refine⟨q',(n:Int)+1,s',?_,h2,h3,by lia⟩
  simp only[beq_self_eq_true,if_true,g3,xK,Rs.bind_ok,hix,Fl.of_ok,ym]
  exact h1
 ·refine byc fun zG=>?_
  obtain⟨q',s',h1,h2,h3⟩:=key (lo1 x[n]) (JP _ hxn).2
  refine zG ?_
  simp only[qSt] at h1
  refine⟨q',(n:Int)+1,s',?_,h2,h3,by lia⟩
  have hb:(e2==0)=false:=by simpa using hz
  simp only[hb,Bool.false_eq_true,if_false,z8,ym]
  exact h1
theorem Gm(ns:List Int)(a:Int)(x:List Nat)(most:Int)(h63:ns.length≤63)(h0:0≤a)(ha:a<900000)(hm0:0≤most)(hm1:most<50)(hx0:0<x.length)(hx1:x.length≤100)(hx:∀c∈x,c∈NS) :
  ∃q:List Nat,(q.length:Int)≤most∧(∀c∈q,c∈QS)∧xM [.scr ns,.int a,.str ⟨x.toArray⟩,.int most]=.ok (.str ⟨q.toArray⟩):=by
 have st:yc 8 [D.scr ns,.int a,.str ⟨x.toArray⟩,.int most]=[some (.val (.scr ns)),some (.val (.int a)),some (.val (.str ⟨x.toArray⟩)),some (.val (.int most)),none,none,none,none]:=rfl
 have dl:=wF ns a (m:=most+1) (by lia)
 have dk:=wx ns a (most+1) h63 h0 (by lia) (by lia)
 generalize hN:x8 ns a (most+1)=N at *
 have r1:=WW (fs:=za (zv zq (za (ze 0) (za (ze 1) (za (eOp zQ (ze 3) (eC (.int 1))) zg)))) zg) (τ:=qSt ns a x most [] 0 none none) (j:=N)
  (by simp only[qSt,zC,zA,yg,yU,yF,zJ,getElem?_cons_zero,getElem?_cons_succ,zF,Rs.bind_ok,yI,dk,xK]) (by lia) (by lia)
 refine byc fun zG=>?_
 obtain⟨τ',l1,q,p,s1,s2,rfl,l2,l3,l4⟩:=wv (set:=gNm 6) (body:=VV) (fun (k:Nat)=>D.int (0+k)) (fun k τ=>∃q p s1 s2,τ=qSt ns a x most q p s1 s2∧q.length≤k∧(∀c∈q,c∈QS)∧0≤p) N.toNat (qSt ns a x most [] 0 none none)
  ⟨[],0,none,none,rfl,le_refl _,(fun _ h=>nomatch h),Int.le_refl _⟩ fun k τ hk z_=>by
   obtain⟨q,p,s1,s2,e,h1,h2,h3⟩:=z_
   subst e
   obtain⟨q',p',s',g1,g2,g3,g4⟩:=UK ns a x most q p k s2 h63 h0 ha (by lia) hx0 hx1 hx (by lia) h2 h3
   exact⟨_,_,vd,g1,q',p',_,s',rfl,by lia,g3,g4⟩
 refine zG ?_
 refine⟨q,by lia,l3,?_⟩
 have s0:qSt ns a x most [] 0 none none=[some (.val (.scr ns)),some (.val (.int a)),some (.val (.str ⟨x.toArray⟩)),some (.val (.int most)),some (.val (.str "")),some (.val (.int 0)),none,none]:=rfl
 unfold xM ZH
 rw[yj,st,zW,yd,yU,Fl.of_ok,ym,zW,yd,yU,Fl.of_ok,ym,zW,xY]
 simp only[set_cons_succ,set_cons_zero]
 rw[← s0,r1,Fl.of_ok]
 unfold uR
 have l1':yJ (gNm 6) VV ((List.range N.toNat).map fun (k:Nat)=>D.int (0+k)) (qSt ns a x most [] 0 none none)=.nx (qSt ns a x most q p s1 s2):=l1
 unfold VV at l1'
 rw[l1',ym]
 simp only[qSt,yb,zJ,getElem?_cons_zero,getElem?_cons_succ,zF,Fl.of_ok,zZ]
noncomputable def wy(c d:Nat):Bool:=c==d||(decide (97≤c∧c≤122)&&up1 c==d)
theorem Tn:("abcdefghijklmnopqrstuvwxyz" : Str).cps.toList=(List.range 26).map (· + 97):=by decide +kernel
theorem jn(c:Nat):decide (c∈("abcdefghijklmnopqrstuvwxyz" : Str).cps.toList)=decide (97≤c∧c≤122):=by
 rw[Tn]
 apply decide_eq_decide.mpr
 rw[mem_map]
 constructor
 ·rintro⟨i,hi,rfl⟩
  have:=mem_range.mp hi
  lia
 ·intro h
  exact⟨c-97,mem_range.mpr (by lia),by lia⟩
theorem J7(c:Nat)(h:c<128):Txt.upper (⟨#[c]⟩:Str)=⟨#[up1 c]⟩:=by
 rw[upper_ascii (x:=⟨#[c]⟩) (by intro d hd;have e:d=c:=(by simpa using hd);lia)]
 simp
theorem UO(c d:Nat):((⟨#[c]⟩:Str)==⟨#[d]⟩)=(c==d):=by
 rw[Bool.eq_iff_iff]
 simp
theorem Xk(c d:Nat)(hc:c<128):x6 [yh c,yh d]=.ok (.bl (wy c d)):=by
 have st:yc 2 [yh c,yh d]=[some (.val (yh c)),some (.val (yh d))]:=rfl
 have hup:upD (.str ⟨#[c]⟩) []=.ok (.str ⟨#[up1 c]⟩):=by
  simp only[upD]
  rw[if_pos (by show 1≤5000000;decide),J7 _ hc]
 unfold x6 J2
 rw[yj,st]
 simp only[yb,MS,Vt,yg,zJ,yU,JZ,getElem?_cons_zero,getElem?_cons_succ,zF,Rs.bind_ok,yh,MQ,UO,vq,Xx,w5,jn,Wb,decide_true,if_true,hup]
 unfold wy
 by_cases h:c=d
 ·subst h;simp
 ·have hb:(c==d)=false:=by simpa using h
  simp only[hb,Bool.false_eq_true,if_false,Bool.false_or]
  by_cases h2:97≤c∧c≤122
  ·simp[h2]
  ·simp[h2]
end Law
set_option Elab.async false
set_option linter.all false
set_option maxHeartbeats 1000000
namespace FD
open PySem PySem.Spec PyProof.Rows L2
section
variable{τ:DS}{fa fb fe fi:FE}{fs:FA}{n:Nat}{i:Int}
theorem ZD:uO n τ=(Up τ[n]?).bind fun ds=>.ok (.int ds.length):=rfl
theorem vw:uW n fe τ=Fl.of (Up τ[n]?) fun ds=>Fl.of (fe τ) fun d=>if ds.length<sizeLine then .nx (τ.set n (some (.own (ds++[d])))) else .no:=rfl
theorem YH:ja fe τ=(fe τ).bind JR:=rfl
@[simp] theorem Mv{ds:List D}:JR (.lst ds)=.ok ds:=rfl
noncomputable def putAt(n:Nat)(ds:List D)(d:D)(τ:DS):D→Fl
 |.int k=>match ixN ds.length k with
  |some j=>.nx (τ.set n (some (.own (ds.set j d))))
  |none=>.no
 |_=>.no
theorem WT:Qf n fi fe τ=Fl.of (fe τ) fun d=>Fl.of (Up τ[n]?) fun ds=>Fl.of (fi τ) (putAt n ds d τ):=by
 unfold Qf jH
 cases fe τ <;> rfl
theorem Gp{ds:List D}{d:D}{j:Nat}(h:j<ds.length):putAt n ds d τ (.int j)=.nx (τ.set n (some (.own (ds.set j d)))):=by
 have:ixN ds.length (j:Int)=some j:=by
  unfold ixN
  rw[if_pos (by lia),if_pos (by lia)]
  simp
 simp only[putAt,this]
noncomputable def ixO(ds:List D):D→Rs D
 |.int k=>match atI ds k with
  |some d=>.ok d
  |none=>.no
 |_=>.no
theorem LB:QL n fi τ=(Up τ[n]?).bind fun ds=>(fi τ).bind (ixO ds):=by
 unfold QL
 show(Up τ[n]?).bind _=_
 cases Up τ[n]? <;> rfl
end
end FD
namespace Law
open PySem PySem.Spec PyProof.Rows L2 FD
noncomputable abbrev tx(x:List Nat):D:=.str ⟨x.toArray⟩
noncomputable abbrev nts(x:List Nat):D:=.lst (x.map fun (k:Nat)=>D.int k)
theorem vG(x:List Nat)(h:x.length≤1000):yQ [tx x]=.ok (.int x.length):=by
 rw[Ue (by rw[z6];show x.toArray.size≤_;simp;lia)]
 show Rs.ok (D.int ((x.toArray.size:Nat):Int))=_
 simp
theorem QZ(x:List Nat)(j:Nat)(c:Nat)(h:x[j]?=some c)(hl:x.length≤1000):ixD (tx x) (.int j)=.ok (yh c):=by
 refine YG (jl (by lia) (by simpa using h)) (by rw[z6];show x.toArray.size≤_;simp;lia)
noncomputable def epR:List Nat→List Nat→Nat→List Nat
 |[],_,_=>[]
 |_::_,[],_=>[]
 |a::q,c::x,k=>if wy a c=true then k::epR q x (k+1) else epR (a::q) x (k+1)
noncomputable def YQ:List Nat→List Nat→Bool
 |[],_=>true
 |_::_,[]=>false
 |a::q,c::x=>if wy a c=true then YQ q x else YQ (a::q) x
theorem XG:∀(q x:List Nat) (k:Nat),((epR q x k).length=q.length)↔YQ q x=true
 |[],x,k=>by simp[epR,YQ]
 |a::q,[],k=>by simp[epR,YQ]
 |a::q,c::x,k=>by
  simp only[epR,YQ]
  split
  ·simpa using XG q x (k+1)
  ·exact XG (a::q) x (k+1)
noncomputable abbrev its(x:List Int):D:=.lst (x.map D.int)
theorem jf{set:FG}{fe:FE}{τ:DS}{α β:Type}(f:α→D)(g:β→D)(h:α→β):∀(xs:List α),(∀a∈xs,∃τ1,set (f a) τ=.ok τ1∧fe τ1=.ok (g (h a)))→uo set (fun _=>.ok true) fe τ (xs.map f)=.ok ((xs.map h).map g):=by
 intro l_
 induction l_ with
 |nil=>
  rintro _
  exact rfl
 |cons a xs ih_=>
  rintro hs
  obtain⟨τ1,h1,h2⟩:=hs a (mem_cons_self ..)
  rw[map_cons,uo,h1]
  simp only[h2,ih_ fun b hb=>hs b (mem_cons_of_mem _ hb),Rs.bind_ok,map_cons]
end Law
set_option Elab.async false
set_option linter.all false
set_option maxHeartbeats 1000000
namespace FD
open PySem PySem.Spec PyProof.Rows L2
theorem ze7(x:List Nat):(⟨x.toArray⟩:Str).length=x.length:=by show x.toArray.size=_;simp
theorem v0{set:FG}{ft:FT}{fe:FE}{τ:DS}{α:Type}(f g:α→D)(p:α→Bool):∀(xs:List α),(∀a∈xs,∃τ1,set (f a) τ=.ok τ1∧ft τ1=.ok (p a)∧fe τ1=.ok (g a))→uo set ft fe τ (xs.map f)=.ok ((xs.filter p).map g):=by
 intro l_
 induction l_ with
 |nil=>
  rintro _
  exact rfl
 |cons a xs ih_=>
  rintro hs
  refine byc fun zG=>?_
  obtain⟨τ1,h1,h2,h3⟩:=hs a (mem_cons_self ..)
  refine zG ?_
  have ih:=ih_ fun b hb=>hs b (mem_cons_of_mem _ hb)
  rw[map_cons,uo,h1]
  cases hp:p a
  ·rw[hp] at h2
   simp only[h2,ih,List.filter_cons,hp,Bool.false_eq_true,if_false]
  ·rw[hp] at h2
   simp only[h2,h3,ih,List.filter_cons,hp,if_true,Rs.bind_ok,map_cons]
end FD
namespace Law
open PySem PySem.Spec PyProof.Rows L2 FD
theorem f1:∀a∈QS,∀c∈NS,wy (lo1 a) c=wy (lo1 a) (lo1 c):=by decide
theorem f2:∀a∈QS,∀c∈NS,wy a c=true→wy (lo1 a) c=true:=by decide
theorem f3:∀a∈QS,∀c∈NS,wy a c=true→lo1 c=lo1 a:=by decide
theorem f5:∀c∈NS,c<128∧lo1 c<128:=by decide
theorem f6:∀c∈QS,c<128∧lo1 c<128:=by decide
structure Lay(q x l:List Nat):Prop where
 len:l.length=q.length
 ris:∀j,j+1<l.length→l.getD j 0<l.getD (j+1) 0
 inn:∀j,j<l.length→l.getD j 0<x.length
 met:∀j,j<l.length→wy (q.getD j 0) (x.getD (l.getD j 0) 0)=true
noncomputable def LJ(x:List Nat)(p:Nat):Int:=if p=0 then 8 else if x.getD (p-1) 0∈MK then 6 else if (65≤x.getD p 0∧x.getD p 0≤90)∧((97≤x.getD (p-1) 0∧x.getD (p-1) 0≤122)∨(48≤x.getD (p-1) 0∧x.getD (p-1) 0≤57)) then 5 else 0
noncomputable def Y9(a:Nat)(x:List Nat)(p:Nat):Int:=10+LJ x p+(if x.getD p 0=a then 1 else 0)
noncomputable def Mo(p:Nat):Int:=-(if (p:Int)<3 then (p:Int) else 3)
noncomputable def Xq(r p:Nat):Int:=if (p:Int)-r-1=0 then 7 else -(if (p:Int)-r-1<5 then (p:Int)-r-1 else 5)
noncomputable abbrev Tl:=Int×List Nat
noncomputable def jL:List Tl→Option Tl→Option Tl
 |[],c=>c
 |t::r,none=>jL r (some t)
 |t::r,some c=>jL r (some (if c.1<t.1 then t else c))
noncomputable def Xr(a:Nat)(x:List Nat):List Tl:=((List.range x.length).filter fun p=>wy a (x.getD p 0)).map fun p=>(Y9 a x p,[p])
noncomputable def Zy(p:Nat)(ts:List Tl):List Tl:=(ts.filter fun t=>decide (p<t.2.getD 0 0)).map fun t=>(t.1+Xq p (t.2.getD 0 0),t.2)
noncomputable def Xp(a:Nat)(x:List Nat)(ts:List Tl)(p:Nat):Option Tl:=if wy a (x.getD p 0)=true then (jL (Zy p ts) none).map fun t=>(Y9 a x p+t.1,p::t.2) else none
noncomputable def Wx(a:Nat)(x:List Nat)(ts:List Tl):List Tl:=(List.range x.length).filterMap (Xp a x ts)
noncomputable def y7:List Nat→List Nat→List Tl
 |[],_=>[]
 |[a],x=>Xr a x
 |a::b::q,x=>Wx a x (y7 (b::q) x)
noncomputable def Mn(t:Tl):Tl:=(t.1+Mo (t.2.getD 0 0),t.2)
noncomputable def M0(q x:List Nat):Option Tl:=jL ((y7 q x).map Mn) none
theorem jA:∀(ts:List Tl) (c:Option Tl) (t:Tl),jL ts c=some t→t∈ts∨c=some t
 |[],c,t,h=>.inr h
 |u::r,none,t,h=>by
  rcases jA r (some u) t h with h|h
  ·exact .inl (mem_cons_of_mem _ h)
  ·cases h;exact .inl (mem_cons_self ..)
 |u::r,some c,t,h=>by
  rcases jA r _ t h with h|h
  ·exact .inl (mem_cons_of_mem _ h)
  ·by_cases g:c.1<u.1
   ·rw[if_pos g] at h;cases h;exact .inl (mem_cons_self ..)
   ·rw[if_neg g] at h;exact .inr h
noncomputable def sm(f:Nat→Int):Nat→Int
 |0=>0
 |n+1=>sm f n+f n
theorem Js(f:Nat→Int):∀n,sm f (n+1)=f 0+sm (fun j=>f (j+1)) n:=by
 intro l_
 induction l_ with
 |zero=>
  simp[sm]
 |succ n ih_=>
  rw[sm,ih_,sm];lia
noncomputable def trk(x:List Nat)(r:Nat)(q l:List Nat)(j:Nat):Int:=Y9 (q.getD j 0) x (l.getD j 0)+Xq (if j=0 then r else l.getD (j-1) 0) (l.getD j 0)
theorem Q2(a p r:Nat)(q x l:List Nat)(j:Nat):trk x r (a::q) (p::l) (j+1)=trk x p q l j:=by
 simp only[trk,List.getD_cons_succ,Nat.succ_ne_zero,if_false,Nat.add_sub_cancel]
 cases j with
 |zero=>rw[if_pos rfl,List.getD_cons_zero]
 |succ j=>rw[if_neg (Nat.succ_ne_zero j),List.getD_cons_succ,Nat.add_sub_cancel]
noncomputable def VJ(x:List Nat):List Nat→List Nat→Int
 |a::q,p::l=>Y9 a x p+sm (trk x p q l) l.length
 |_,_=>0
theorem Qa(a b p r:Nat)(q x l:List Nat):VJ x (a::b::q) (p::r::l)=Y9 a x p+Xq p r+VJ x (b::q) (r::l):=by
 simp only[VJ,length_cons]
 rw[Js,funext (Q2 b r p q x l)]
 simp only[trk,if_true,List.getD_cons_zero]
 lia
theorem Lay.one{a p:Nat}{x:List Nat}(h1:p<x.length)(h2:wy a (x.getD p 0)=true):Lay [a] x [p]:=by
 have z:∀j,j<[p].length→j=0:=fun j hj=>by simpa using hj
 exact⟨rfl,fun j hj=>by simp at hj,fun j hj=>by rw[z j hj];exact h1,fun j hj=>by rw[z j hj];exact h2⟩
theorem Lay.cons{a p:Nat}{q x l:List Nat}(h:Lay q x l)(h1:p<x.length)(h2:wy a (x.getD p 0)=true)(h3:0<l.length→p<l.getD 0 0):Lay (a::q) x (p::l):=by
 refine⟨by simp[h.len],fun j hj=>?_,fun j hj=>?_,fun j hj=>?_⟩
 ·cases j with
  |zero=>simpa using h3 (by simpa using hj)
  |succ j=>simpa using h.ris j (by simpa using hj)
 ·cases j with
  |zero=>simpa using h1
  |succ j=>simpa using h.inn j (by simpa using hj)
 ·cases j with
  |zero=>exact h2
  |succ j=>simpa using h.met j (by simpa using hj)
theorem Z7(x:List Nat):∀(q:List Nat) (t:Tl),t∈y7 q x→Lay q x t.2∧t.1=VJ x q t.2
 |[],t,h=>by simp[y7] at h
 |[a],t,h=>by
  simp only[y7,Xr,mem_map,mem_filter,mem_range] at h
  refine byc fun zG=>?_
  obtain⟨p,⟨h1,h2⟩,rfl⟩:=h
  refine zG ?_
  exact⟨Lay.one h1 h2,by simp[VJ,sm]⟩
 |a::b::q,t,h=>by
  simp only[y7,Wx,List.mem_filterMap,mem_range] at h
  obtain⟨p,h1,h2⟩:=h
  unfold Xp at h2
  split at h2
  ·rename_i hm
   cases e:jL (Zy p (y7 (b::q) x)) none with
   |none=>rw[e] at h2;cases h2
   |some u=>
    rw[e] at h2
    have h2:some (Y9 a x p+u.1,p::u.2)=some t:=h2
    cases h2
    rcases jA _ _ _ e with g|g
    ·simp only[Zy,mem_map,mem_filter,decide_eq_true_eq] at g
     refine byc fun zG=>?_
     obtain⟨v,⟨g1,g2⟩,rfl⟩:=g
     obtain⟨k1,k2⟩:=Z7 x (b::q) v g1
     refine zG ?_
     refine⟨k1.cons h1 hm fun _=>g2,?_⟩
     have hl:=k1.len
     cases e2:v.2 with
     |nil=>rw[e2] at hl;simp at hl
     |cons r l=>
      rw[e2] at k2
      simp only[List.getD_cons_zero]
      rw[Qa,k2]
      lia
    ·cases g
  ·cases h2
end Law
set_option Elab.async false
set_option linter.all false
set_option maxHeartbeats 1000000
namespace FD
open PySem PySem.Spec PyProof.Rows L2
noncomputable def negI:D→Rs D
 |.int i=>.ok (.int (-i))
 |_=>.no
@[simp] theorem G3{i:Int}:negI (.int i)=.ok (.int (-i)):=rfl
theorem YJ{fa:FE}{τ:DS}:xh fa τ=(fa τ).bind negI:=by
 unfold xh
 show(fa τ).bind _=_
 cases fa τ with
 |ok d=>cases d <;> rfl
 |_=>rfl
theorem Md(i j:Int):Zx [.int i,.int j]=.ok (.int (if j<i then j else i)):=rfl
end FD
namespace Law
open PySem PySem.Spec PyProof.Rows L2 FD
noncomputable abbrev tlD(t:Tl):D:=.tup [.int t.1,nts t.2]
noncomputable def jE:Option Tl→D
 |none=>.non
 |some t=>tlD t
theorem J9(t:Tl):ixD (tlD t) (.int 0)=.ok (.int t.1):=rfl
theorem J8(t:Tl):ixD (tlD t) (.int 1)=.ok (nts t.2):=rfl
theorem ze0(l:List Nat)(j:Nat)(h:j<l.length):ixD (nts l) (.int (j:Int))=.ok (.int (l.getD j 0:Nat)):=by
 refine jy (jl (by lia) ?_)
 simp[getD_eq_getElem?_getD,getElem?_eq_getElem h]
theorem Vc(l:List Nat)(h:0<l.length):ixD (nts l) (.int 0)=.ok (.int (l.getD 0 0:Nat)):=ze0 l 0 h
theorem ZB(x:List Nat)(j:Nat)(h:j<x.length):x[j]?=some (x.getD j 0):=by
 rw[getD_eq_getElem?_getD,getElem?_eq_getElem h];rfl
theorem Wg(x:List Nat)(j:Nat)(h:j<x.length)(hx:x.length≤1000):ixD (tx x) (.int (j:Int))=.ok (yh (x.getD j 0)):=QZ x j _ (ZB x j h) hx
theorem Ls:("ABCDEFGHIJKLMNOPQRSTUVWXYZ" : Str).cps.toList=(List.range 26).map (· + 65):=by decide +kernel
theorem zh1:("0123456789" : Str).cps.toList=(List.range 10).map (· + 48):=by decide +kernel
theorem Jv(c n a:Nat):decide (c∈(List.range (n+1)).map (· + a))=decide (a≤c∧c≤n+a):=by
 apply decide_eq_decide.mpr
 rw[mem_map]
 constructor
 ·rintro⟨i,hi,rfl⟩
  have:=mem_range.mp hi
  lia
 ·intro h
  exact⟨c-a,mem_range.mpr (by lia),by lia⟩
theorem jz(c:Nat):decide (c∈("ABCDEFGHIJKLMNOPQRSTUVWXYZ" : Str).cps.toList)=decide (65≤c∧c≤90):=by
 rw[Ls];exact Jv c 25 65
theorem XD(c:Nat):decide (c∈("0123456789" : Str).cps.toList)=decide (48≤c∧c≤57):=by
 rw[zh1];exact Jv c 9 48
theorem zh5(x:List Nat)(p:Nat)(hx:x.length≤1000)(hp:p<x.length):yH [tx x,.int (p:Int)]=.ok (.int (LJ x p)):=by
 have st:yc 3 [tx x,.int (p:Int)]=[some (.val (tx x)),some (.val (.int (p:Int))),none]:=rfl
 unfold yH vO
 rw[yj,st]
 cases p with
 |zero=>
  simp only[zW,yG,yb,z8,x9,yg,zJ,yU,getElem?_cons_zero,getElem?_cons_succ,zF,Rs.bind_ok,Fl.of_ok,ZM,zZ,z5,vL,if_true,show((((0:Nat):Int))==0)=true from rfl]
  rfl
 |succ k=>
  have e0:(((k+1:Nat):Int)==0)=false:=by simp;lia
  have e1:((k+1:Nat):Int)-1=(k:Int):=by lia
  have hk:=Wg x k (by lia) hx
  have hk1:=Wg x (k+1) hp hx
  have hb:LJ x (k+1)=if x.getD k 0∈MK then 6 else if (65≤x.getD (k+1) 0∧x.getD (k+1) 0≤90)∧((97≤x.getD k 0∧x.getD k 0≤122)∨(48≤x.getD k 0∧x.getD k 0≤57)) then 5 else 0:=by
   unfold LJ;rw[if_neg (Nat.succ_ne_zero k)];rfl
  rw[hb]
  generalize x.getD k 0=c at *
  generalize x.getD (k+1) 0=d at *
  simp only[yh] at hk hk1
  by_cases h1:c∈MK
  ·simp only[zW,yd,yG,yb,z8,x9,yg,zJ,yU,getElem?_cons_zero,getElem?_cons_succ,set_cons_succ,set_cons_zero,zF,Rs.bind_ok,Fl.of_ok,ym,ZM,zZ,z5,wa,vL,if_true,Bool.false_eq_true,if_false,e0,e1,hk,Xx,w5,Qx,h1,decide_true]
  ·by_cases h2:65≤d∧d≤90
   ·by_cases h3:97≤c∧c≤122
    ·have h4:(65≤d∧d≤90)∧((97≤c∧c≤122)∨(48≤c∧c≤57)):=⟨h2,.inl h3⟩
     rw[if_neg h1,if_pos h4]
     simp only[zW,yd,yG,yb,z8,x9,vg,uU,yg,zJ,yU,getElem?_cons_zero,getElem?_cons_succ,set_cons_succ,set_cons_zero,zF,Rs.bind_ok,Fl.of_ok,ym,ZM,zZ,z5,wa,vL,if_true,Bool.false_eq_true,if_false,e0,e1,hk,hk1,Xx,w5,Qx,h1,decide_false,jz,jn,XD,h2,h3,and_self,decide_true]
    ·by_cases h5:48≤c∧c≤57
     ·have h4:(65≤d∧d≤90)∧((97≤c∧c≤122)∨(48≤c∧c≤57)):=⟨h2,.inr h5⟩
      rw[if_neg h1,if_pos h4]
      simp only[zW,yd,yG,yb,z8,x9,vg,uU,yg,zJ,yU,getElem?_cons_zero,getElem?_cons_succ,set_cons_succ,set_cons_zero,zF,Rs.bind_ok,Fl.of_ok,ym,ZM,zZ,z5,wa,vL,if_true,Bool.false_eq_true,if_false,e0,e1,hk,hk1,Xx,w5,Qx,h1,decide_false,jz,jn,XD,decide_eq_true h2,decide_eq_false h3,decide_eq_true h5]
     ·have h4:¬ ((65≤d∧d≤90)∧((97≤c∧c≤122)∨(48≤c∧c≤57))):=fun h=>by rcases h.2 with h|h;exact h3 h;exact h5 h
      rw[if_neg h1,if_neg h4]
      simp only[zW,yd,yG,yb,z8,x9,vg,uU,yg,zJ,yU,getElem?_cons_zero,getElem?_cons_succ,set_cons_succ,set_cons_zero,zF,Rs.bind_ok,Fl.of_ok,ym,zZ,z5,wa,vL,if_true,Bool.false_eq_true,if_false,e0,e1,hk,hk1,Xx,w5,Qx,h1,decide_false,jz,jn,XD,decide_eq_true h2,decide_eq_false h3,decide_eq_false h5]
   ·have h4:¬ ((65≤d∧d≤90)∧((97≤c∧c≤122)∨(48≤c∧c≤57))):=fun h=>h2 h.1
    rw[if_neg h1,if_neg h4]
    simp only[zW,yd,yG,yb,z8,x9,vg,uU,yg,zJ,yU,getElem?_cons_zero,getElem?_cons_succ,set_cons_succ,set_cons_zero,zF,Rs.bind_ok,Fl.of_ok,ym,zZ,z5,wa,vL,Bool.false_eq_true,if_false,e0,e1,hk,hk1,Xx,w5,Qx,h1,decide_false,jz,decide_eq_false h2]
theorem GT(a:Nat)(x:List Nat)(p:Nat)(hx:x.length≤1000)(hp:p<x.length):yE [yh a,tx x,.int (p:Int)]=.ok (.int (Y9 a x p)):=by
 have st:yc 4 [yh a,tx x,.int (p:Int)]=[some (.val (yh a)),some (.val (tx x)),some (.val (.int (p:Int))),none]:=rfl
 have hk:=Wg x p hp hx
 have hb:=zh5 x p hx hp
 unfold yE ZG Y9
 rw[yj,st]
 simp only[yh] at hk ⊢
 by_cases h:x.getD p 0=a
 ·have h':(x.getD p 0==a)=true:=by simpa using h
  rw[if_pos h]
  simp only[zW,yd,yb,x9,yg,zJ,yU,zA,zC,yF,MT,getElem?_cons_zero,getElem?_cons_succ,set_cons_succ,set_cons_zero,zF,Rs.bind_ok,Fl.of_ok,ym,zZ,xK,z5,yI,MQ,if_true,hk,UO,h',hb]
 ·have h':(x.getD p 0==a)=false:=by simpa using h
  rw[if_neg h]
  simp only[zW,yd,yb,x9,yg,zJ,yU,zA,zC,yF,MT,getElem?_cons_zero,getElem?_cons_succ,set_cons_succ,set_cons_zero,zF,Rs.bind_ok,Fl.of_ok,ym,zZ,xK,z5,yI,MQ,Bool.false_eq_true,if_false,hk,UO,h',hb]
theorem Lj(p:Nat):y0 [.int (p:Int)]=.ok (.int (Mo p)):=by
 have st:yc 1 [.int (p:Int)]=[some (.val (.int (p:Int)))]:=rfl
 unfold y0 jN Mo
 rw[yj,st]
 simp only[yb,zJ,yU,zA,zC,wY,getElem?_cons_zero,zF,Rs.bind_ok,Fl.of_ok,zZ,Md,YJ,G3]
 congr 3
 split <;> split <;> lia
theorem Lf(r p:Nat):xq [.int (r:Int),.int (p:Int)]=.ok (.int (Xq r p)):=by
 have st:yc 3 [.int (r:Int),.int (p:Int)]=[some (.val (.int (r:Int))),some (.val (.int (p:Int))),none]:=rfl
 unfold xq jM Xq
 rw[yj,st]
 by_cases h:(p:Int)-r-1=0
 ·have h':((p:Int)-r-1==0)=true:=by simpa using h
  rw[if_pos h]
  simp only[zW,yd,yG,yb,z8,x9,yg,zJ,yU,getElem?_cons_zero,getElem?_cons_succ,set_cons_succ,set_cons_zero,zF,Rs.bind_ok,Fl.of_ok,ym,ZM,zZ,z5,wa,vL,if_true,h']
 ·have h':((p:Int)-r-1==0)=false:=by simpa using h
  rw[if_neg h]
  simp only[zW,yd,yG,yb,z8,x9,yg,zJ,yU,zA,zC,wY,getElem?_cons_zero,getElem?_cons_succ,set_cons_succ,set_cons_zero,zF,Rs.bind_ok,Fl.of_ok,ym,zZ,z5,wa,vL,Bool.false_eq_true,if_false,h',Md,YJ,G3]
  congr 3
  split <;> split <;> lia
end Law
set_option Elab.async false
set_option linter.all false
set_option maxHeartbeats 1000000
namespace FD
open PySem PySem.Spec PyProof.Rows L2
theorem Gj{fs:FA}{τ:DS}{i j:Int}(h:fs τ=.ok [.int i,.int j,.int (-1)])(h1 : -(2 ^ 62)≤i)(h2:i<2 ^ 62)(h3 : -(2 ^ 62)≤j)(h4:j<2 ^ 62):Vq fs τ=.ok (Zg i (i-j).toNat):=by
 unfold Vq
 rw[h]
 simp only[Rs.bind_ok,Uj]
 rw[if_pos ⟨⟨h1,h2⟩,h3,h4⟩]
end FD
namespace Law
open PySem PySem.Spec PyProof.Rows L2 FD
noncomputable def Z5:FS:=(sIf (YO (FD.tB (eOp isD (ze 1) (eC .non))) (FD.tB (eOp gtD (eOp ixD (ze 2) (eC (.int 0))) (eOp ixD (ze 1) (eC (.int 0)))))) (yn 1 (ze 2)) zM)
theorem zg0:isD .non .non=.ok (.bl true):=rfl
theorem L0(t:Tl):isD (tlD t) .non=.ok (.bl false):=rfl
theorem Wz:uB .non .non=.ok (.bl false):=rfl
theorem Ug(t:Tl):uB (tlD t) .non=.ok (.bl true):=rfl
theorem Vr(z:D):∀(ts:List Tl) (c:Option Tl) (s:Option Sl),∃s',yJ (gNm 2) Z5 (ts.map tlD) [some (.val z),some (.val (jE c)),s]=.nx [some (.val z),some (.val (jE (jL ts c))),s']
 |[],c,s=>⟨s,rfl⟩
 |t::ts,none,s=>by
  obtain⟨s',ih⟩:=Vr z ts (some t) (some (.val (tlD t)))
  refine⟨s',?_⟩
  have:Z5 [some (.val z),some (.val (jE none)),some (.val (tlD t))]=.nx [some (.val z),some (.val (jE (some t))),some (.val (tlD t))]:=by
   unfold Z5 jE
   simp only[yd,yG,z8,x9,uU,yg,zJ,yU,getElem?_cons_zero,getElem?_cons_succ,set_cons_succ,set_cons_zero,zF,Rs.bind_ok,Fl.of_ok,z5,if_true,zg0]
  rw[map_cons,yJ,vd,Fl.of_ok]
  simp only[set_cons_succ,set_cons_zero,this]
  rw[ih]
  rfl
 |t::ts,some c,s=>by
  obtain⟨s',ih⟩:=Vr z ts (some (if c.1<t.1 then t else c)) (some (.val (tlD t)))
  refine⟨s',?_⟩
  have:Z5 [some (.val z),some (.val (jE (some c))),some (.val (tlD t))]=.nx [some (.val z),some (.val (jE (some (if c.1<t.1 then t else c)))),some (.val (tlD t))]:=by
   unfold Z5 jE
   by_cases h:c.1<t.1
   ·rw[if_pos h]
    simp only[yd,yG,z8,x9,uU,yg,zJ,yU,getElem?_cons_zero,getElem?_cons_succ,set_cons_succ,set_cons_zero,zF,Rs.bind_ok,Fl.of_ok,z5,WB,if_true,Bool.false_eq_true,if_false,L0,J9,h,decide_true]
   ·rw[if_neg h]
    simp only[yd,yG,z8,x9,uU,yg,zJ,yU,getElem?_cons_zero,getElem?_cons_succ,set_cons_succ,set_cons_zero,zF,Rs.bind_ok,Fl.of_ok,z5,WB,Bool.false_eq_true,if_false,L0,J9,h,decide_false]
  rw[map_cons,yJ,vd,Fl.of_ok]
  simp only[set_cons_succ,set_cons_zero,this]
  rw[ih]
  rfl
theorem L7(ts:List Tl):zY [.lst (ts.map tlD)]=.ok (jE (jL ts none)):=by
 have st:yc 3 [.lst (ts.map tlD)]=[some (.val (.lst (ts.map tlD))),none,none]:=rfl
 obtain⟨s',h⟩:=Vr (.lst (ts.map tlD)) ts none none
 unfold Z5 at h
 unfold zY uP
 rw[yj,st]
 simp only[jE] at h
 simp only[zW,yd,yb,xY,YH,Mv,zJ,yU,getElem?_cons_zero,getElem?_cons_succ,set_cons_succ,set_cons_zero,zF,Rs.bind_ok,Fl.of_ok,ym,zZ,h]
 rfl
theorem size2:∀a b:D,([a,b]:List D).length≤sizeLine:=fun a b=>by rw[z6];exact Nat.le_of_ble_eq_true rfl
theorem size1:∀a:D,([a]:List D).length≤sizeLine:=fun a=>by rw[z6];exact Nat.le_of_ble_eq_true rfl
theorem uQ{fa fb:FE}{τ:DS}{a b:D}(h1:fa τ=.ok a)(h2:fb τ=.ok b):yz (za fa (za fb zg)) τ=.ok (.tup [a,b]):=by
 rw[JY,zC,h1,Rs.bind_ok,zC,h2,Rs.bind_ok,zA,Rs.bind_ok,Rs.bind_ok,Rs.bind_ok]
 exact if_pos (size2 a b)
theorem Mg{fa:FE}{τ:DS}{a:D}(h1:fa τ=.ok a):vB (za fa zg) τ=.ok (.lst [a]):=by
 rw[Vs,zC,h1,Rs.bind_ok,zA,Rs.bind_ok,Rs.bind_ok]
 exact if_pos (size1 a)
theorem L8{f:List D→Rs D}{fa:FE}{τ:DS}{a d:D}(h1:fa τ=.ok a)(h:f [a]=.ok d):zv f (za fa zg) τ=.ok d:=by
 rw[yF,zC,h1,Rs.bind_ok,zA,Rs.bind_ok,Rs.bind_ok,h];rfl
theorem Yi{f:List D→Rs D}{fa fb:FE}{τ:DS}{a b d:D}(h1:fa τ=.ok a)(h2:fb τ=.ok b)(h:f [a,b]=.ok d):zv f (za fa (za fb zg)) τ=.ok d:=by
 rw[yF,zC,h1,Rs.bind_ok,zC,h2,Rs.bind_ok,zA,Rs.bind_ok,Rs.bind_ok,Rs.bind_ok,h];rfl
theorem vp{f:List D→Rs D}{fa fb fc:FE}{τ:DS}{a b c d:D}(h1:fa τ=.ok a)(h2:fb τ=.ok b)(h3:fc τ=.ok c)(h:f [a,b,c]=.ok d):zv f (za fa (za fb (za fc zg))) τ=.ok d:=by
 rw[yF,zC,h1,Rs.bind_ok,zC,h2,Rs.bind_ok,zC,h3,Rs.bind_ok,zA,Rs.bind_ok,Rs.bind_ok,Rs.bind_ok,Rs.bind_ok,h];rfl
theorem op2{op:D→D→Rs D}{fa fb:FE}{τ:DS}{a b:D}{r:Rs D}(h1:fa τ=.ok a)(h2:fb τ=.ok b)(h:op a b=r):eOp op fa fb τ=r:=by
 rw[yg,h1,Rs.bind_ok,h2,Rs.bind_ok,h]
theorem zk{n:Nat}{τ:DS}{d:D}(h:τ[n]?=some (some (.val d))):ze n τ=.ok d:=by rw[zJ,h];rfl
theorem uC{k:Nat}{idx:List Nat}{fi:FA}{set:FG}{ft:FT}{fe:FE}{τ:DS}{ds xs:List D}(h1:fi τ=.ok ds)(h2:uo set ft fe (v6 k idx τ) ds=.ok xs)(h3:xs.length≤1000):wZ k idx fi set ft fe τ=.ok xs:=by
 unfold wZ
 rw[h1,Rs.bind_ok,h2]
 exact if_pos (by rw[z6];lia)
theorem tru_ok{fe:FE}{τ:DS}{b:Bool}(h:fe τ=.ok (.bl b)):jP fe τ=.ok b:=by rw[vR,h];rfl
theorem xO{fe:FE}{τ:DS}{b:Bool}(h:fe τ=.ok (.bl b)):FD.tB fe τ=.ok b:=by rw[x9,h];rfl
theorem uX{fa:FE}{τ:DS}{n:Nat}(h:fa τ=.ok (.int (n:Int)))(hn:n≤1000):ww (za fa zg) τ=.ok ((List.range n).map fun (k:Nat)=>D.int (0+k)):=by
 rw[WW (j:=(n:Int)) (by rw[zC,h,Rs.bind_ok,zA,Rs.bind_ok]) (by lia) (by lia),Int.toNat_natCast];rfl
theorem j0{g:List D→Rs D}{fa:FE}{τ:DS}{a d:D}(h1:fa τ=.ok a)(h:g [a]=.ok d):yv g (za fa zg) τ=.ok d:=by
 rw[wY,zC,h1,Rs.bind_ok,zA,Rs.bind_ok,Rs.bind_ok,h]
theorem Wa(a:Nat)(x:List Nat)(ha:a<128)(hx:x.length≤1000):yk [yh a,tx x]=.ok (.lst ((Xr a x).map tlD)):=by
 have st:yc 2 [yh a,tx x]=[some (.val (yh a)),some (.val (tx x))]:=rfl
 have cf:=v0 (set:=gNm 0) (ft:=(jP (zv x6 (za (ze 1) (za (eOp ixD (ze 2) (ze 0)) zg))))) (fe:=(yz (za (zv yE (za (ze 1) (za (ze 2) (za (ze 0) zg)))) (za (vB (za (ze 0) zg)) zg)))) (τ:=[none,some (.val (yh a)),some (.val (tx x))])
  (fun (k:Nat)=>D.int (0+k)) (fun (p:Nat)=>tlD (Y9 a x p,[p])) (fun p=>wy a (x.getD p 0)) (List.range x.length) fun p hp=>by
   have hp:=mem_range.mp hp
   refine⟨[some (.val (.int (p:Int))),some (.val (yh a)),some (.val (tx x))],by rw[Int.zero_add];rfl,?_,?_⟩
   ·exact tru_ok (Yi (zk rfl) (op2 (zk rfl) (zk rfl) (Wg x p hp hx)) (Xk a _ ha))
   ·exact uQ (vp (zk rfl) (zk rfl) (zk rfl) (GT a x p hx hp)) (Mg (zk rfl))
 have hlen:(((List.range x.length).filter fun p=>wy a (x.getD p 0)).map fun (p:Nat)=>tlD (Y9 a x p,[p])).length≤1000:=by
  rw[length_map]
  have:=List.length_filter_le (fun p=>wy a (x.getD p 0)) (List.range x.length)
  rw[length_range] at this;lia
 have ec:=uC (k:=1) (idx:=[0,1]) (fi:=ww (za (yv yQ (za (ze 1) zg)) zg)) (τ:=[some (.val (yh a)),some (.val (tx x))]) (uX (j0 (zk rfl) (vG x hx)) hx) cf hlen
 unfold yk v4
 rw[yj,st,yb]
 simp only[ec,Rs.bind_ok,Fl.of_ok,zZ]
 unfold Xr
 rw[map_map]
 rfl
theorem QC(p:Nat)(ts:List Tl)(hs:ts.length≤1000)(hn:∀t∈ts,0<t.2.length):yN [.int (p:Int),.lst (ts.map tlD)]=.ok (.lst ((Zy p ts).map tlD)):=by
 have st:yc 2 [.int (p:Int),.lst (ts.map tlD)]=[some (.val (.int (p:Int))),some (.val (.lst (ts.map tlD)))]:=rfl
 have cf:=v0 (set:=gNm 0) (ft:=(FD.tB (eOp gtD (eOp ixD (eOp ixD (ze 0) (eC (.int 1))) (eC (.int 0))) (ze 1)))) (fe:=(yz (za (eOp zQ (eOp ixD (ze 0) (eC (.int 0))) (zv xq (za (ze 1) (za (eOp ixD (eOp ixD (ze 0) (eC (.int 1))) (eC (.int 0))) zg)))) (za (eOp ixD (ze 0) (eC (.int 1))) zg)))) (τ:=[none,some (.val (.int (p:Int)))])
  tlD (fun t=>tlD (t.1+Xq p (t.2.getD 0 0),t.2)) (fun t=>decide (p<t.2.getD 0 0)) ts fun t ht=>by
   refine⟨[some (.val (tlD t)),some (.val (.int (p:Int)))],rfl,?_,?_⟩
   ·have:=Vc t.2 (hn t ht)
    refine xO (op2 (op2 (op2 (zk rfl) rfl (J8 t)) rfl this) (zk rfl) ?_)
    rw[WB]
    congr 2
    exact decide_eq_decide.mpr (by lia)
   ·have:=Vc t.2 (hn t ht)
    exact uQ (op2 (op2 (zk rfl) rfl (J9 t)) (Yi (zk rfl) (op2 (op2 (zk rfl) rfl (J8 t)) rfl this) (Lf p _)) (yI)) (op2 (zk rfl) rfl (J8 t))
 have hlen:((ts.filter fun t=>decide (p<t.2.getD 0 0)).map fun t=>tlD (t.1+Xq p (t.2.getD 0 0),t.2)).length≤1000:=by
  rw[length_map]
  have:=List.length_filter_le (fun t:Tl=>decide (p<t.2.getD 0 0)) ts
  lia
 have it:ja (ze 1) [some (.val (.int (p:Int))),some (.val (.lst (ts.map tlD)))]=.ok (ts.map tlD):=rfl
 have ec:=uC (k:=1) (idx:=[0]) (τ:=[some (.val (.int (p:Int))),some (.val (.lst (ts.map tlD)))]) it cf hlen
 unfold yN jh
 rw[yj,st,yb]
 simp only[ec,Rs.bind_ok,Fl.of_ok,zZ]
 unfold Zy
 rw[map_map]
 rfl
noncomputable def Z0:FS:=(sIf (jP (zv x6 (za (ze 0) (za (eOp ixD (ze 1) (ze 4)) zg)))) (zu (yn 5 (zv zY (za (zv yN (za (ze 4) (za (ze 2) zg))) zg)))
  (sIf (FD.tB (eOp uB (ze 5) (eC .non))) (uW 3 (yz (za (eOp zQ (zv yE (za (ze 0) (za (ze 1) (za (ze 4) zg)))) (eOp ixD (ze 5) (eC (.int 0)))) (za (eOp zQ (vB (za (ze 4) zg)) (eOp ixD (ze 5) (eC (.int 1)))) zg)))) zM)) zM)
theorem QP(p:Nat)(l:List Nat)(h:l.length≤1000):zQ (.lst [.int (p:Int)]) (nts l)=.ok (nts (p::l)):=by
 show(if _ then Rs.ok (D.lst _) else Rs.no)=_
 rw[if_pos (by rw[z6,length_map,length_singleton];lia)]
 rfl
theorem Ml(p:Nat)(ts:List Tl):∀t,jL (Zy p ts) none=some t→∃u∈ts,t.2=u.2:=fun t h=>by
 rcases jA _ _ _ h with g|g
 ·simp only[Zy,mem_map,mem_filter] at g
  refine byc fun zG=>?_
  obtain⟨u,⟨g1,_⟩,rfl⟩:=g
  refine zG ?_
  exact⟨u,g1,rfl⟩
 ·cases g
theorem Lg(a:Nat)(x:List Nat)(ts acc:List Tl)(p:Nat)(s5:Option Sl)(ha:a<128)(hx:x.length≤1000)(hs:ts.length≤1000)(hn:∀t∈ts,0<t.2.length∧t.2.length≤1000)(hp:p<x.length)(hc:acc.length≤1000) :
  ∃s',Z0 [some (.val (yh a)),some (.val (tx x)),some (.val (.lst (ts.map tlD))),some (.own (acc.map tlD)),some (.val (.int (p:Int))),s5]=.nx [some (.val (yh a)),some (.val (tx x)),some (.val (.lst (ts.map tlD))),some (.own ((acc++(Xp a x ts p).toList).map tlD)),some (.val (.int (p:Int))),s']:=by
 have hm:=Xk a (x.getD p 0) ha
 have hlk:=QC p ts hs fun t ht=>(hn t ht).1
 have hfm:=L7 (Zy p ts)
 have how:=GT a x p hx hp
 have hix:=Wg x p hp hx
 have hsz:(acc.map tlD).length<sizeLine:=by rw[z6,length_map];lia
 unfold Z0 Xp
 generalize x6=fa at hm ⊢
 generalize yN=fb at hlk ⊢
 generalize zY=fc at hfm ⊢
 generalize yE=fd at how ⊢
 by_cases h:wy a (x.getD p 0)=true
 ·rw[if_pos h]
  rw[h] at hm
  cases e:jL (Zy p ts) none with
  |none=>
   rw[e] at hfm
   refine⟨some (.val .non),?_⟩
   simp only[zW,yd,yG,z8,vw,x9,vR,yg,zJ,yU,zA,zC,yF,getElem?_cons_zero,getElem?_cons_succ,set_cons_succ,set_cons_zero,zF,xg,Rs.bind_ok,Fl.of_ok,ym,xK,z5,vq,if_true,Bool.false_eq_true,if_false,hix,hm,hlk,hfm,jE,Wz,Option.map_none,Option.toList_none,append_nil]
  |some t=>
   rw[e] at hfm
   obtain⟨u,u1,u2⟩:=Ml p ts t e
   have hct:=QP p t.2 (by rw[u2];exact(hn u u1).2)
   refine⟨some (.val (tlD t)),?_⟩
   have tp:yz (za (eOp zQ (zv fd (za (ze 0) (za (ze 1) (za (ze 4) zg)))) (eOp ixD (ze 5) (eC (.int 0)))) (za (eOp zQ (vB (za (ze 4) zg)) (eOp ixD (ze 5) (eC (.int 1)))) zg)) [some (.val (yh a)),some (.val (tx x)),some (.val (.lst (ts.map tlD))),some (.own (acc.map tlD)),some (.val (.int (p:Int))),some (.val (tlD t))]=.ok (tlD (Y9 a x p+t.1,p::t.2)):=
    uQ (op2 (vp (zk rfl) (zk rfl) (zk rfl) how) (op2 (zk rfl) rfl (J9 t)) yI) (op2 (Mg (zk rfl)) (op2 (zk rfl) rfl (J8 t)) hct)
   simp only[zW,yd,yG,z8,vw,x9,vR,yg,zJ,yU,zA,zC,yF,getElem?_cons_zero,getElem?_cons_succ,set_cons_succ,set_cons_zero,zF,xg,Rs.bind_ok,Fl.of_ok,ym,xK,z5,vq,if_true,hix,hm,hlk,hfm,jE,Ug,tp,hsz,Option.map_some,Option.toList_some,map_append,map_cons,map_nil]
 ·have h':wy a (x.getD p 0)=false:=by simpa using h
  rw[h'] at hm
  rw[if_neg h]
  refine⟨s5,?_⟩
  simp only[zW,yd,yG,z8,vR,yg,zJ,zA,zC,yF,getElem?_cons_zero,getElem?_cons_succ,set_cons_succ,set_cons_zero,zF,Rs.bind_ok,Fl.of_ok,xK,vq,Bool.false_eq_true,if_false,hix,hm,Option.toList_none,append_nil]
theorem XC(f:Nat→Option Tl)(k:Nat):(List.range (k+1)).filterMap f=(List.range k).filterMap f++(f k).toList:=by
 rw[range_succ,List.filterMap_append]
 simp only[List.filterMap_cons,List.filterMap_nil]
 cases h:f k <;> rfl
theorem Ww(f:Nat→Option Tl)(k:Nat):((List.range k).filterMap f).length≤k:=by
 have:=List.length_filterMap_le f (List.range k)
 rwa [length_range] at this
theorem Lh(a:Nat)(x:List Nat)(ts:List Tl)(ha:a<128)(hx:x.length≤1000)(hs:ts.length≤1000)(hn:∀t∈ts,0<t.2.length∧t.2.length≤1000) :
  ∃s4 s5,yJ (gNm 4) Z0 ((List.range x.length).map fun (k:Nat)=>D.int (0+k)) [some (.val (yh a)),some (.val (tx x)),some (.val (.lst (ts.map tlD))),some (.own []),none,none]=.nx [some (.val (yh a)),some (.val (tx x)),some (.val (.lst (ts.map tlD))),some (.own ((Wx a x ts).map tlD)),s4,s5]:=by
 refine byc fun zG=>?_
 obtain⟨τ',h1,s4,s5,h2⟩:=wv (set:=gNm 4) (body:=Z0) (fun (k:Nat)=>D.int (0+k)) (fun k τ=>∃s4 s5,τ=[some (.val (yh a)),some (.val (tx x)),some (.val (.lst (ts.map tlD))),some (.own (((List.range k).filterMap (Xp a x ts)).map tlD)),s4,s5]) x.length
  [some (.val (yh a)),some (.val (tx x)),some (.val (.lst (ts.map tlD))),some (.own []),none,none] ⟨_,_,rfl⟩ fun k τ hk z_=>by
   obtain⟨s4,s5,e⟩:=z_
   subst e
   obtain⟨s',g⟩:=Lg a x ts ((List.range k).filterMap (Xp a x ts)) k s5 ha hx hs hn hk (by have:=Ww (Xp a x ts) k;lia)
   have e0:(0:Int)+(k:Int)=(k:Int):=by lia
   rw[XC]
   exact⟨_,_,by rw[e0];exact vd,g,_,_,rfl⟩
 refine zG ?_
 subst h2
 exact⟨s4,s5,h1⟩
theorem zg4(bd:FS)(ri:FA)(A B C:D)(n:Nat)(P:List D)(s4 s5:Option Sl)(r1:ri [some (.val A),some (.val B),some (.val C),some (.own []),none,none]=.ok ((List.range n).map fun (k:Nat)=>D.int (0+k)))
  (h1:yJ (gNm 4) bd ((List.range n).map fun (k:Nat)=>D.int (0+k)) [some (.val A),some (.val B),some (.val C),some (.own []),none,none]=.nx [some (.val A),some (.val B),some (.val C),some (.own P),s4,s5]) :
  wg 6 (zu (wQ 3 (fun τ=>(zg τ).bind fun ds=>if ds.length≤sizeLine then .ok ds else .no)) (zu (wR ri (gNm 4) bd) (vH 3))) [A,B,C]=.ok (.lst P):=by
 have st:yc 6 [A,B,C]=[some (.val A),some (.val B),some (.val C),none,none,none]:=rfl
 rw[yj,st]
 simp only[zW,wP,vi,vj,xY,zA,getElem?_cons_zero,getElem?_cons_succ,set_cons_succ,set_cons_zero,xg,Rs.bind_ok,Fl.of_ok,ym,zZ,if_true,length_nil,zero_le,r1,h1]
theorem Mh:vM=(zu (wQ 3 (fun τ=>(zg τ).bind fun ds=>if ds.length≤sizeLine then .ok ds else .no)) (zu (wR (ww (za (yv yQ (za (ze 1) zg)) zg)) (gNm 4) Z0) (vH 3))):=by unfold vM Z0;rfl
theorem QB(a:Nat)(x:List Nat)(ts:List Tl)(ha:a<128)(hx:x.length≤1000)(hs:ts.length≤1000)(hn:∀t∈ts,0<t.2.length∧t.2.length≤1000):xf [yh a,tx x,.lst (ts.map tlD)]=.ok (.lst ((Wx a x ts).map tlD)):=by
 obtain⟨s4,s5,h1⟩:=Lh a x ts ha hx hs hn
 unfold xf
 rw[Mh]
 exact zg4 _ _ _ _ _ x.length _ _ _ (uX (j0 (zk rfl) (vG x hx)) hx) h1
theorem Wj(x:List Nat):∀q:List Nat,(y7 q x).length≤x.length
 |[]=>by simp[y7]
 |[a]=>by
  simp only[y7,Xr,length_map]
  have:=List.length_filter_le (fun p=>wy a (x.getD p 0)) (List.range x.length)
  rwa [length_range] at this
 |a::b::q=>by simp only[y7,Wx];exact Ww _ _
theorem VI(q x:List Nat)(hq:q≠[])(hl:q.length≤1000):∀t∈y7 q x,0<t.2.length∧t.2.length≤1000:=fun t ht=>by
 have:=(Z7 x q t ht).1.len
 have:0<q.length:=List.length_pos_iff.mpr hq
 lia
noncomputable def XN:FS:=(yn 2 (zv xf (za (eOp ixD (ze 0) (ze 3)) (za (ze 1) (za (ze 2) zg)))))
theorem LH(q x:List Nat)(m:Nat)(hm:q.length=m+1)(hq:q.length≤1000)(hx:x.length≤1000)(ha:∀c∈q,c<128) :
  ∃s,yJ (gNm 3) XN (Zg ((m:Int)-1) m) [some (.val (tx q)),some (.val (tx x)),some (.val (.lst ((y7 (q.drop m) x).map tlD))),none]=.nx [some (.val (tx q)),some (.val (tx x)),some (.val (.lst ((y7 q x).map tlD))),s]:=by
 refine byc fun zG=>?_
 obtain⟨τ',h1,s,h2⟩:=wv (set:=gNm 3) (body:=XN) (fun (k:Nat)=>D.int ((m:Int)-1-k)) (fun k τ=>∃s,τ=[some (.val (tx q)),some (.val (tx x)),some (.val (.lst ((y7 (q.drop (m-k)) x).map tlD))),s]) m
  [some (.val (tx q)),some (.val (tx x)),some (.val (.lst ((y7 (q.drop m) x).map tlD))),none] ⟨_,rfl⟩ fun k τ hk z_=>by
   obtain⟨s,e⟩:=z_
   subst e
   obtain⟨j,hj⟩:∃j,m=j+1+k:=⟨m-1-k,by lia⟩
   have e0:(m:Int)-1-(k:Int)=(j:Int):=by lia
   have d1:q.drop (m-k)=q.drop (j+1):=by congr 1;lia
   have d2:q.drop (m-(k+1))=q.drop j:=by congr 1;lia
   have hjq:j<q.length:=by lia
   have hne:q.drop (j+1)≠[]:=fun h=>by
    have:=congrArg List.length h
    rw[length_drop] at this;simp at this;lia
   have hlg:=QB (q.getD j 0) x (y7 (q.drop (j+1)) x) (ha _ (List.mem_of_getElem? (ZB q j hjq))) hx (by have:=Wj x (q.drop (j+1));lia) (VI _ x hne (by rw[length_drop];lia))
   have ht:Wx (q.getD j 0) x (y7 (q.drop (j+1)) x)=y7 (q.drop j) x:=by
    have e1:q.drop j=q.getD j 0::q.drop (j+1):=by
     rw[drop_eq_getElem_cons hjq,getD_eq_getElem?_getD,getElem?_eq_getElem hjq];rfl
    rw[e1]
    cases e2:q.drop (j+1) with
    |nil=>exact absurd e2 hne
    |cons b r=>rfl
   rw[ht] at hlg
   rw[d1,d2]
   refine⟨[some (.val (tx q)),some (.val (tx x)),some (.val (.lst ((y7 (q.drop (j+1)) x).map tlD))),some (.val (.int (j:Int)))],[some (.val (tx q)),some (.val (tx x)),some (.val (.lst ((y7 (q.drop j) x).map tlD))),some (.val (.int (j:Int)))],by rw[e0];rfl,?_,_,rfl⟩
   unfold XN
   rw[yd,vp (op2 (zk rfl) (zk rfl) (Wg q j hjq hq)) (zk rfl) (zk rfl) hlg,Fl.of_ok]
   rfl
 refine zG ?_
 subst h2
 refine⟨s,?_⟩
 rw[Nat.sub_self,List.drop_zero] at h1
 exact h1
noncomputable def ldE:FE:=(fun τ=>((wZ 1 [] (ja (ze 2)) (gNm 0) (fun _=>.ok true) (yz (za (eOp zQ (eOp ixD (ze 0) (eC (.int 0))) (zv y0 (za (eOp ixD (eOp ixD (ze 0) (eC (.int 1))) (eC (.int 0))) zg))) (za (eOp ixD (ze 0) (eC (.int 1))) zg)))) τ).bind fun ds=>.ok (.lst ds))
theorem ld_ok(A B:D)(ts:List Tl)(s:Option Sl)(hs:ts.length≤1000)(hn:∀t∈ts,0<t.2.length):ldE [some (.val A),some (.val B),some (.val (.lst (ts.map tlD))),s]=.ok (.lst ((ts.map Mn).map tlD)):=by
 have cf:=jf (set:=gNm 0) (fe:=(yz (za (eOp zQ (eOp ixD (ze 0) (eC (.int 0))) (zv y0 (za (eOp ixD (eOp ixD (ze 0) (eC (.int 1))) (eC (.int 0))) zg))) (za (eOp ixD (ze 0) (eC (.int 1))) zg)))) (τ:=[none]) tlD tlD Mn ts fun t ht=>by
   refine⟨[some (.val (tlD t))],rfl,?_⟩
   have:=Vc t.2 (hn t ht)
   exact uQ (op2 (op2 (zk rfl) rfl (J9 t)) (L8 (op2 (op2 (zk rfl) rfl (J8 t)) rfl this) (Lj _)) yI) (op2 (zk rfl) rfl (J8 t))
 have it:ja (ze 2) [some (.val A),some (.val B),some (.val (.lst (ts.map tlD))),s]=.ok (ts.map tlD):=rfl
 have ec:=uC (k:=1) (idx:=[]) (τ:=[some (.val A),some (.val B),some (.val (.lst (ts.map tlD))),s]) it cf (by simpa using hs)
 unfold ldE
 simp only[ec,Rs.bind_ok]
theorem MZ:Jf=(zu (sIf (FD.tB (eOp eqD (yv yQ (za (ze 0) zg)) (eC (.int 0)))) (yx (yz (za (eC (.int 0)) (za (vB zg) zg)))) zM)
  (zu (yn 2 (zv yk (za (eOp ixD (ze 0) (xh (eC (.int 1)))) (za (ze 1) zg))))
  (zu (wR (Vq (za (eOp xw (yv yQ (za (ze 0) zg)) (eC (.int 2))) (za (xh (eC (.int 1))) (za (xh (eC (.int 1))) zg)))) (gNm 3) XN)
  (yx (zv zY (za ldE zg)))))):=by unfold Jf XN ldE;rfl
theorem ze2(q:List Nat)(m:Nat)(hm:q.length=m+1)(hq:q.length≤1000):ixD (tx q) (.int (-1))=.ok (yh (q.getD m 0)):=by
 refine YG ?_ (by rw[ze7,z6];lia)
 have e:ixN q.length (-1)=some m:=by
  unfold ixN
  rw[if_neg (by lia),if_pos (by lia)]
  congr 1;lia
 unfold atI
 show(ixN q.length (-1)).bind _=_
 rw[e]
 exact ZB q m (by lia)
theorem bs_r3(q x:List Nat)(T:D)(m:Nat)(hm:q.length=m+1)(hq:q.length≤1000):Vq (za (eOp xw (yv yQ (za (ze 0) zg)) (eC (.int 2))) (za (xh (eC (.int 1))) (za (xh (eC (.int 1))) zg))) [some (.val (tx q)),some (.val (tx x)),some (.val T),none]=.ok (Zg ((m:Int)-1) m):=by
 have a1:eOp xw (yv yQ (za (ze 0) zg)) (eC (.int 2)) [some (.val (tx q)),some (.val (tx x)),some (.val T),none]=.ok (.int ((m:Int)-1)):=by
  refine op2 (j0 (zk rfl) (vG q hq)) rfl ?_
  rw[wa];congr 2;lia
 have a2:∀τ,xh (eC (.int 1)) τ=.ok (.int (-1)):=fun τ=>rfl
 have r3:=Gj (fs:=za (eOp xw (yv yQ (za (ze 0) zg)) (eC (.int 2))) (za (xh (eC (.int 1))) (za (xh (eC (.int 1))) zg))) (τ:=[some (.val (tx q)),some (.val (tx x)),some (.val T),none]) (i:=(m:Int)-1) (j:=-1)
  (by rw[zC,a1,Rs.bind_ok,zC,a2,Rs.bind_ok,zC,a2,Rs.bind_ok,zA,Rs.bind_ok,Rs.bind_ok,Rs.bind_ok]) (by lia) (by lia) (by lia) (by lia)
 rw[r3]
 congr 2
 lia
theorem zg5(g1:FT)(g2:FS)(e1 e2:FE)(r3:FA)(bd:FS)(A B T T' R:D)(L:List D)(s:Option Sl)(h0:g1 [some (.val A),some (.val B),none,none]=.ok false)(h1:e1 [some (.val A),some (.val B),none,none]=.ok T)(h2:r3 [some (.val A),some (.val B),some (.val T),none]=.ok L)(h3:yJ (gNm 3) bd L [some (.val A),some (.val B),some (.val T),none]=.nx [some (.val A),some (.val B),some (.val T'),s])(h4:e2 [some (.val A),some (.val B),some (.val T'),s]=.ok R) :
  wg 4 (zu (sIf g1 g2 zM) (zu (yn 2 e1) (zu (wR r3 (gNm 3) bd) (yx e2)))) [A,B]=.ok R:=by
 have st:yc 4 [A,B]=[some (.val A),some (.val B),none,none]:=rfl
 rw[yj,st]
 simp only[zW,yd,yG,yb,z8,xY,set_cons_succ,set_cons_zero,Fl.of_ok,ym,zZ,Bool.false_eq_true,if_false,h0,h1,h2,h3,h4]
theorem LI(q x:List Nat)(hne:q≠[])(hq:q.length≤1000)(hx:x.length≤1000)(ha:∀c∈q,c<128):v7 [tx q,tx x]=.ok (jE (M0 q x)):=by
 have hpos:0<q.length:=List.length_pos_iff.mpr hne
 obtain⟨m,hm⟩:∃m,q.length=m+1:=⟨q.length-1,by lia⟩
 obtain⟨s,hl⟩:=LH q x m hm hq hx ha
 have hmem:q.getD m 0∈q:=List.mem_of_getElem? (ZB q m (by lia))
 have d:y7 (q.drop m) x=Xr (q.getD m 0) x:=by
  have e1:q.drop m=[q.getD m 0]:=by
   rw[drop_eq_getElem_cons (by lia),getD_eq_getElem?_getD,getElem?_eq_getElem (by lia:m<q.length),List.drop_eq_nil_of_le (by lia)];rfl
  rw[e1];rfl
 rw[d] at hl
 have h0:FD.tB (eOp eqD (yv yQ (za (ze 0) zg)) (eC (.int 0))) [some (.val (tx q)),some (.val (tx x)),none,none]=.ok false:=by
  refine xO (op2 (j0 (zk rfl) (vG q hq)) rfl ?_)
  rw[vL]
  congr 2
  simp;exact hne
 have h1:zv yk (za (eOp ixD (ze 0) (xh (eC (.int 1)))) (za (ze 1) zg)) [some (.val (tx q)),some (.val (tx x)),none,none]=.ok (.lst ((Xr (q.getD m 0) x).map tlD)):=
  Yi (op2 (zk rfl) rfl (ze2 q m hm hq)) (zk rfl) (Wa _ x (ha _ hmem) hx)
 have h4:zv zY (za ldE zg) [some (.val (tx q)),some (.val (tx x)),some (.val (.lst ((y7 q x).map tlD))),s]=.ok (jE (M0 q x)):=
  L8 (ld_ok _ _ _ _ (by have:=Wj x q;lia) fun t ht=>(VI q x hne hq t ht).1) (L7 _)
 unfold v7
 rw[MZ]
 exact zg5 _ _ _ _ _ _ _ _ _ _ _ _ _ h0 h1 (bs_r3 q x _ m hm hq) hl h4
noncomputable abbrev hd0(t:Tl):Nat:=t.2.getD 0 0
noncomputable def Srt(ts:List Tl):Prop:=ts.Pairwise fun a b=>hd0 a<hd0 b
noncomputable def WK(q x:List Nat):Option Tl:=if q=[] then some (0,[]) else M0 q x
end Law
set_option Elab.async false
set_option linter.all false
set_option maxHeartbeats 1000000
namespace FD
open PySem PySem.Spec PyProof.Rows L2
theorem sl_ok{fe:FE}{fl fh:FO}{τ:DS}{d r:D}{l u:Option Int}(h1:fe τ=.ok d)(h2:fl τ=.ok l)(h3:fh τ=.ok u)(h:slD d l u=.ok r):eSl fe fl fh τ=.ok r:=by
 rw[MR,h1,Rs.bind_ok,h2,Rs.bind_ok,h3,Rs.bind_ok,h]
theorem LX{f g:FT}{τ:DS}{b:Bool}(h1:f τ=.ok false)(h2:g τ=.ok b):YO f g τ=.ok b:=by rw[uU,h1,Rs.bind_ok,if_neg (by simp),h2]
end FD
namespace Law
open PySem PySem.Spec PyProof.Rows L2 FD
theorem Lb{τ:DS}:vB zg τ=.ok (.lst []):=by
 rw[Vs,zA,Rs.bind_ok];exact if_pos (zero_le _)
theorem M6(q x:List Nat)(hq:q.length≤1000)(hx:x.length≤1000)(ha:∀c∈q,c<128):v7 [tx q,tx x]=.ok (jE (WK q x)):=by
 by_cases z:q=[]
 ·subst z
  have st:yc 4 [tx [],tx x]=[some (.val (tx [])),some (.val (tx x)),none,none]:=rfl
  have hl:=vG [] (by simp)
  have hg:FD.tB (eOp eqD (yv yQ (za (ze 0) zg)) (eC (.int 0))) [some (.val (tx [])),some (.val (tx x)),none,none]=.ok true:=xO (op2 (j0 (zk rfl) hl) rfl rfl)
  have he:yz (za (eC (.int 0)) (za (vB zg) zg)) [some (.val (tx [])),some (.val (tx x)),none,none]=.ok (.tup [.int 0,.lst []]):=uQ rfl Lb
  unfold v7
  rw[MZ,yj,st,zW,yG,hg,Fl.of_ok,if_pos rfl,yb,he]
  rfl
 ·have:=LI q x z hq hx ha
  rw[this]
  unfold WK
  rw[if_neg z]
theorem QK(fc:FA)(g:FT)(fx:FE)(A B C:D)(L:List D)(b:Bool)(d:D)(h1:fc [some (.val A),some (.val B),some (.val C),none]=.ok L)(h2:g [some (.val A),some (.val B),some (.val C),some (.own L)]=.ok b)
  (h3:b=true→fx [some (.val A),some (.val B),some (.val C),some (.own L)]=.ok d∧0<L.length) :
  wg 4 (zu (wQ 3 fc) (zu (sIf g (Qf 3 (eC (.int 0)) fx) zM) (vH 3))) [A,B,C]=.ok (.lst (if b=true then L.set 0 d else L)):=by
 have st:yc 4 [A,B,C]=[some (.val A),some (.val B),some (.val C),none]:=rfl
 rw[yj,st]
 cases b with
 |false=>simp only[zW,wP,yG,vi,vj,z8,WT,yU,getElem?_cons_zero,getElem?_cons_succ,set_cons_succ,set_cons_zero,xg,Fl.of_ok,ym,zZ,Bool.false_eq_true,if_false,h1,h2,wP,vi,vj,xg,Bool.false_eq_true,if_false]
 |true=>
  obtain⟨h3,h4⟩:=h3 rfl
  have hp:=Gp (n:=3) (τ:=[some (.val A),some (.val B),some (.val C),some (.own L)]) (d:=d) (j:=0) h4
  have e0:(((0:Nat):Int))=0:=rfl
  rw[e0] at hp
  simp only[zW,wP,yG,vi,vj,z8,WT,yU,getElem?_cons_zero,getElem?_cons_succ,set_cons_succ,set_cons_zero,xg,Fl.of_ok,ym,zZ,if_true,h1,h2,h3,wP,vi,vj,xg,WT,hp]
theorem ze4:uG=(zu (wQ 3 (wZ 1 [0,1] (ww (za (zv zq (za (ze 0) (za (ze 1) (za (eOp zQ (ze 2) (eC (.int 1))) zg)))) zg)) (gNm 0) (fun _=>.ok true) (zv xx (za (ze 1) (za (eOp zQ (eOp zQ (ze 2) (eC (.int 1))) (eOp vQ (eC (.int 12)) (ze 0))) zg)))))
  (zu (sIf (vm (FD.tB (eOp gtD (uO 3) (eC (.int 1)))) (FD.tB (eOp eqD (zv zq (za (ze 0) (za (eOp zQ (ze 1) (eC (.int 12))) (za (eC (.int 5)) zg)))) (eC (.int 0))))) (Qf 3 (eC (.int 0)) (QL 3 (xh (eC (.int 1))))) zM)
  (vH 3))):=by unfold uG;rfl
noncomputable def VC(x:List Nat):Prop:=0<x.length∧x.length≤10∧∀c∈x,c∈NS
theorem G7(ns:List Int)(a:Int)(h0:0≤a):VC (vX ns a (Wu ns a)):=by
 have d:=wF ns a (m:=10) (by decide)
 have hl:(vX ns a (Wu ns a)).length=(1+x8 ns a 10).toNat:=by simp[vX,Wu]
 refine⟨by rw[hl];lia,by rw[hl];lia,fun c hc=>?_⟩
 obtain⟨k,_,rfl⟩:=mem_map.mp hc
 exact Qw ns a k (by lia)
theorem L9{f g:FT}{τ:DS}{b c:Bool}(h1:f τ=.ok b)(h2:b=true→g τ=.ok c):vm f g τ=.ok (b&&c):=by
 rw[vg,h1,Rs.bind_ok]
 cases b with
 |false=>rfl
 |true=>rw[if_pos rfl,h2 rfl];rfl
theorem G6(ns:List Int)(a most:Int)(h63:ns.length≤63)(h0:0≤a)(ha:a<800000)(hm0:0≤most)(hm1:most<50) :
  ∃X:List (List Nat),xl [.scr ns,.int a,.int most]=.ok (.lst (X.map tx))∧(X.length:Int)≤most∧∀x∈X,VC x:=by
 have dl:=wF ns a (m:=most+1) (by lia)
 have dk:=wx ns a (most+1) h63 h0 (by lia) (by lia)
 have dk2:=wx ns (a+12) 5 h63 (by lia) (by lia) (by decide)
 generalize hN:x8 ns a (most+1)=N at *
 generalize x8 ns (a+12) 5=M at *
 have cf:=jf (set:=gNm 0) (fe:=(zv xx (za (ze 1) (za (eOp zQ (eOp zQ (ze 2) (eC (.int 1))) (eOp vQ (eC (.int 12)) (ze 0))) zg)))) (τ:=[none,some (.val (.scr ns)),some (.val (.int a))]) (fun (k:Nat)=>D.int (0+k)) tx
  (fun k=>vX ns (a+1+12*(k:Int)) (Wu ns (a+1+12*(k:Int)))) (List.range N.toNat) fun k hk=>by
   have hk:=mem_range.mp hk
   refine⟨[some (.val (.int (k:Int))),some (.val (.scr ns)),some (.val (.int a))],by rw[Int.zero_add];rfl,?_⟩
   exact Yi (zk rfl) (op2 (op2 (zk rfl) rfl yI) (op2 rfl (zk rfl) (vK (by lia))) yI) (Lc ns _ h63 (by lia) (by lia))
 have it:ww (za (zv zq (za (ze 0) (za (ze 1) (za (eOp zQ (ze 2) (eC (.int 1))) zg)))) zg) [some (.val (.scr ns)),some (.val (.int a)),some (.val (.int most)),none]=.ok ((List.range N.toNat).map fun (k:Nat)=>D.int (0+k)):=
  uX (n:=N.toNat) (by rw[Int.toNat_of_nonneg dl.1];exact vp (zk rfl) (zk rfl) (op2 (zk rfl) rfl yI) dk) (by lia)
 have ec:=uC (k:=1) (idx:=[0,1]) it cf (by simp;lia)
 generalize hX0:(List.range N.toNat).map (fun (k:Nat)=>vX ns (a+1+12*(k:Int)) (Wu ns (a+1+12*(k:Int))))=X0 at ec cf
 have l0:X0.length=N.toNat:=by rw[← hX0];simp
 have ok0:∀x∈X0,VC x:=fun x hx=>by
  rw[← hX0] at hx
  obtain⟨k,_,rfl⟩:=mem_map.mp hx
  exact G7 ns _ (by lia)
 have hg:vm (FD.tB (eOp gtD (uO 3) (eC (.int 1)))) (FD.tB (eOp eqD (zv zq (za (ze 0) (za (eOp zQ (ze 1) (eC (.int 12))) (za (eC (.int 5)) zg)))) (eC (.int 0)))) [some (.val (.scr ns)),some (.val (.int a)),some (.val (.int most)),some (.own (X0.map tx))]=.ok (decide (1<(X0.length:Int))&&(M==0)):=
  L9 (xO (op2 (a:=.int (X0.length:Int)) (by rw[ZD];show Rs.ok (D.int ((X0.map tx).length:Int))=_;rw[length_map]) rfl WB)) fun _=>xO (op2 (vp (zk rfl) (op2 (zk rfl) rfl yI) rfl dk2) rfl vL)
 have hne:(decide (1<(X0.length:Int))&&(M==0))=true→0<X0.length:=fun h=>by
  rw[Bool.and_eq_true,decide_eq_true_eq] at h;lia
 have e:=QK _ _ (QL 3 (xh (eC (.int 1)))) (.scr ns) (.int a) (.int most) (X0.map tx) _ (tx (X0.getD (X0.length-1) [])) ec hg fun h=>by
  have hp:=hne h
  refine⟨?_,by rw[length_map];exact hp⟩
  rw[LB]
  show(Rs.ok (X0.map tx)).bind (fun ds=>(xh (eC (.int 1)) _).bind (ixO ds))=_
  rw[Rs.bind_ok,YJ,yU,Rs.bind_ok]
  show(Rs.ok (D.int (-1))).bind _=_
  rw[Rs.bind_ok]
  unfold ixO
  have:atI (X0.map tx) (-1)=some (tx (X0.getD (X0.length-1) [])):=by
   have e:ixN (X0.map tx).length (-1)=some (X0.length-1):=by
    unfold ixN
    rw[length_map,if_neg (by lia),if_pos (by lia)]
    congr 1;lia
   unfold atI
   rw[e]
   show(X0.map tx)[X0.length-1]?=_
   rw[getElem?_map,getElem?_eq_getElem (by lia)]
   simp[show X0.length-1<X0.length by lia]
  simp only[this]
 unfold xl
 rw[ze4,e]
 cases hb:(decide (1<(X0.length:Int))&&(M==0)) with
 |false=>exact⟨X0,by rw[if_neg (by simp)],by lia,ok0⟩
 |true=>
  have hp:=hne hb
  refine⟨X0.set 0 (X0.getD (X0.length-1) []),by rw[if_pos rfl,List.map_set],by rw[List.length_set];lia,fun x hx=>?_⟩
  rcases List.mem_or_eq_of_mem_set hx with h|h
  ·exact ok0 x h
  ·rw[h]
   have:X0.getD (X0.length-1) []=X0[X0.length-1]'(by lia):=by simp[show X0.length-1<X0.length by lia]
   rw[this]
   exact ok0 _ (getElem_mem _)
theorem Ul{α β:Type}(f:α→β)(x:List Int×α):∀l:List (List Int×α),Xw (x.1,f x.2) (l.map fun p=>(p.1,f p.2))=(Xw x l).map fun p=>(p.1,f p.2):=by
 intro l_
 induction l_ with
 |nil=>
  exact rfl
 |cons y r ih_=>
  rw[map_cons,Xw,Xw]
  split
  ·rfl
  ·rw[ih_];rfl
theorem Wm{α β:Type}(f:α→β):∀l:List (List Int×α),wO (l.map fun p=>(p.1,f p.2))=(wO l).map fun p=>(p.1,f p.2):=by
 intro l_
 induction l_ with
 |nil=>
  exact rfl
 |cons x r ih_=>
  rw[map_cons,wO,wO,ih_,Ul]
noncomputable def uV{α:Type}(key:α→List Int)(rs:List α):List α:=(wO (rs.map fun r=>(key r,r))).map (·.2)
theorem Ti{α:Type}(key:α→List Int)(f:α→D)(rs:List α):(wO ((rs.map key).zip (rs.map f))).map (·.2)=(uV key rs).map f:=by
 have e:(rs.map key).zip (rs.map f)=(rs.map fun r=>(key r,r)).map fun p=>(p.1,f p.2):=by
  induction rs with
  |nil=>rfl
  |cons r rs ih=>simp only[map_cons,List.zip_cons_cons,ih]
 rw[e,Wm]
 unfold uV
 rw[map_map,map_map];rfl
theorem UD{α:Type}(key:α→List Int)(rs:List α):(uV key rs).Perm rs:=by
 have:=(up (rs.map fun r=>(key r,r))).map (·.2)
 rw[map_map] at this
 have e:rs.map ((fun p:List Int×α=>p.2) ∘ fun r=>(key r,r))=rs:=by
  rw[show((fun p:List Int×α=>p.2) ∘ fun r=>(key r,r))=id from rfl,List.map_id]
 rw[e] at this
 exact this
noncomputable def kD(k:List Int):D:=.tup (k.map D.int)
theorem WA:∀k:List Int,Xu (k.map D.int)=some k:=by
 intro l_
 induction l_ with
 |nil=>
  exact rfl
 |cons i k ih_=>
  show(Xu (k.map D.int)).map (i :: ·)=_
  rw[ih_];rfl
theorem zf4(k:List Int):Lm (kD k)=some k:=WA k
theorem Wy{α:Type}(key:α→List Int):∀rs:List α,Yf (rs.map fun r=>kD (key r))=some (rs.map key):=by
 intro l_
 induction l_ with
 |nil=>
  exact rfl
 |cons r rs ih_=>
  rw[map_cons,Yf,zf4,ih_];rfl
theorem UH{α:Type}(key:α→List Int)(f:α→D)(rs:List α)(h64:rs.length<64)(nd:(rs.map key).Nodup)(ne:∀r,key r≠[]):ZO (rs.map fun r=>kD (key r)) (rs.map f)=.ok (.lst ((uV key rs).map f)):=by
 unfold ZO
 rw[Wy]
 simp only
 rw[if_pos ⟨by simpa using h64,nd,fun k hk=>by obtain⟨r,_,rfl⟩:=mem_map.mp hk;exact ne r⟩,Ti]
theorem Yd{α:Type}{idx:List Nat}{fb:FE}{τ:DS}(key:α→List Int)(f:α→D):∀rs:List α,(∀r∈rs,QE idx fb τ (f r)=.ok (kD (key r)))→vA idx fb τ (rs.map f)=.ok (rs.map fun r=>kD (key r)):=by
 intro l_
 induction l_ with
 |nil=>
  rintro _
  exact rfl
 |cons r rs ih_=>
  rintro h
  rw[map_cons,vA,h r mem_cons_self]
  simp only[ih_ fun s hs=>h s (mem_cons_of_mem _ hs),map_cons]
theorem U9{α:Type}{idx:List Nat}{fe fb:FE}{τ:DS}(key:α→List Int)(f:α→D)(rs:List α)(h:fe τ=.ok (.lst (rs.map f)))(hk:∀r∈rs,QE idx fb τ (f r)=.ok (kD (key r)))(h64:rs.length<64)(nd:(rs.map key).Nodup)(ne:∀r,key r≠[]) :
  XH idx fe fb τ=.ok (.lst ((uV key rs).map f)):=by
 unfold XH
 rw[h,Rs.bind_ok]
 simp only[Yd key f rs hk]
 exact UH key f rs h64 nd ne
noncomputable abbrev Rw:=Int×Nat
noncomputable def xi(r:Rw):D:=.tup [.int r.1,.int (r.2:Int)]
theorem row_0(r:Rw):ixD (xi r) (.int 0)=.ok (.int r.1):=rfl
theorem Gh(r:Rw):ixD (xi r) (.int 1)=.ok (.int (r.2:Int)):=rfl
theorem Wt{key:Rw→List Int}(hk:∀r s,key r=key s→r.2=s.2):∀rs:List Rw,(rs.map (·.2)).Nodup→(rs.map key).Nodup:=by
 intro l_
 induction l_ with
 |nil=>
  rintro _
  exact List.nodup_nil
 |cons r rs ih_=>
  rintro h
  rw[map_cons,nodup_cons] at h ⊢
  refine⟨fun hm=>h.1 ?_,ih_ h.2⟩
  obtain⟨s,hs,e⟩:=mem_map.mp hm
  exact mem_map.mpr ⟨s,hs,hk s r e⟩
noncomputable def Xs(X:List (List Nat))(r:Rw):List Int:=[-r.1,((X.getD r.2 []).length:Int),(r.2:Int)]
theorem Mu(X:List (List Nat))(r s:Rw)(h:Xs X r=Xs X s):r.2=s.2:=by
 unfold Xs at h
 injection h with h1 h2
 injection h2 with h2 h3
 injection h3 with h3 _
 lia
theorem size3:∀a b c:D,([a,b,c]:List D).length≤sizeLine:=fun a b c=>by rw[z6];exact Nat.le_of_ble_eq_true rfl
theorem za4{fa fb fc:FE}{τ:DS}{a b c:D}(h1:fa τ=.ok a)(h2:fb τ=.ok b)(h3:fc τ=.ok c):yz (za fa (za fb (za fc zg))) τ=.ok (.tup [a,b,c]):=by
 rw[JY,zC,h1,Rs.bind_ok,zC,h2,Rs.bind_ok,zC,h3,Rs.bind_ok,zA,Rs.bind_ok,Rs.bind_ok,Rs.bind_ok,Rs.bind_ok]
 exact if_pos (size3 a b c)
theorem ze1{fa:FE}{τ:DS}{i:Int}(h:fa τ=.ok (.int i)):xh fa τ=.ok (.int (-i)):=by rw[YJ,h];rfl
theorem Xi(X:List (List Nat))(i:Nat)(h:i<X.length):ixD (.lst (X.map tx)) (.int (i:Int))=.ok (tx (X.getD i [])):=by
 refine jy (J4 ?_)
 rw[getElem?_map,getElem?_eq_getElem h]
 simp[h]
theorem Tc(ds:List D)(n:Nat):slD (.lst ds) none (some (n:Int))=.ok (.lst (ds.take n)):=by
 have:FD.cutD ds none (some (n:Int))=ds.take n:=by
  have e0:HT.sIx ds.length 0 none=0:=rfl
  have e1:HT.sIx ds.length ds.length (some (n:Int))=min n ds.length:=by
   unfold HT.sIx
   have:¬ ((n:Int)<0):=by lia
   simp[this]
  unfold FD.cutD
  rw[e0,e1,List.drop_zero,Nat.sub_zero]
  rcases Nat.le_total n ds.length with z|z
  ·rw[Nat.min_eq_left z]
  ·rw[Nat.min_eq_right z,take_length,List.take_of_length_le z]
 show Rs.ok (D.lst (FD.cutD ds none (some (n:Int))))=_
 rw[this]
theorem T1:j1=(yx (XH [0] (ze 1) (yz (za (xh (eOp ixD (ze 0) (eC (.int 0)))) (za (yv yQ (za (eOp ixD (ze 1) (eOp ixD (ze 0) (eC (.int 1)))) zg)) (za (eOp ixD (ze 0) (eC (.int 1))) zg)))))):=by unfold j1;rfl
structure zi2(X:List (List Nat))(rs:List Rw):Prop where
 few:rs.length<64
 nd:(rs.map (·.2)).Nodup
 lt:∀r∈rs,r.2<X.length
 sz:∀x∈X,x.length≤1000
theorem getD_mem{X:List (List Nat)}{i:Nat}(h:i<X.length):X.getD i []∈X:=by
 have:X.getD i []=X[i]:=by simp[h]
 rw[this];exact getElem_mem _
theorem GU(X:List (List Nat))(rs:List Rw)(h:zi2 X rs):wj [.lst (X.map tx),.lst (rs.map xi)]=.ok (.lst ((uV (Xs X) rs).map xi)):=by
 have st:yc 2 [.lst (X.map tx),.lst (rs.map xi)]=[some (.val (.lst (X.map tx))),some (.val (.lst (rs.map xi)))]:=rfl
 unfold wj
 rw[T1,yj,st,yb,U9 (Xs X) xi rs (zk rfl) (fun r hr=>?_) h.few (Wt (Mu X) rs h.nd) (fun r z=>nomatch z)]
 ·rfl
 ·have hlt:=h.lt r hr
  have hsz:=h.sz _ (getD_mem hlt)
  have:yz (za (xh (eOp ixD (ze 0) (eC (.int 0)))) (za (yv yQ (za (eOp ixD (ze 1) (eOp ixD (ze 0) (eC (.int 1)))) zg)) (za (eOp ixD (ze 0) (eC (.int 1))) zg))) [some (.val (xi r)),some (.val (.lst (X.map tx)))]=.ok (kD (Xs X r)):=za4 (ze1 (op2 (zk rfl) rfl (row_0 r))) (j0 (op2 (zk rfl) (op2 (zk rfl) rfl (Gh r)) (Xi X r.2 hlt)) (vG _ hsz)) (op2 (zk rfl) rfl (Gh r))
  exact this
theorem ze8(i j:Int):Xl [.int i,.int j]=.ok (.int (if i<j then j else i)):=rfl
theorem Ly:uE=(yx (eSl (zv wj (za (ze 0) (za (ze 1) zg))) JF (jJ (yv Xl (za (ze 2) (za (eC (.int 0)) zg)))))):=by unfold uE;rfl
theorem blt2{g:List D→Rs D}{fa fb:FE}{τ:DS}{a b d:D}(h1:fa τ=.ok a)(h2:fb τ=.ok b)(h:g [a,b]=.ok d):yv g (za fa (za fb zg)) τ=.ok d:=by
 rw[wY,zC,h1,Rs.bind_ok,zC,h2,Rs.bind_ok,zA,Rs.bind_ok,Rs.bind_ok,Rs.bind_ok,h]
theorem zc9{fa:FE}{τ:DS}{i:Int}(h:fa τ=.ok (.int i)):jJ fa τ=.ok (some i):=by rw[V5,h];rfl
theorem ML(X:List (List Nat))(rs:List Rw)(many:Nat)(h:zi2 X rs):xk [.lst (X.map tx),.lst (rs.map xi),.int (many:Int)]=.ok (.lst (((uV (Xs X) rs).take many).map xi)):=by
 have st:yc 3 [.lst (X.map tx),.lst (rs.map xi),.int (many:Int)]=[some (.val (.lst (X.map tx))),some (.val (.lst (rs.map xi))),some (.val (.int (many:Int)))]:=rfl
 have hm:Xl [.int (many:Int),.int 0]=.ok (.int (many:Int)):=by
  rw[ze8];rw[if_neg (by lia)]
 have e:eSl (zv wj (za (ze 0) (za (ze 1) zg))) JF (jJ (yv Xl (za (ze 2) (za (eC (.int 0)) zg)))) [some (.val (.lst (X.map tx))),some (.val (.lst (rs.map xi))),some (.val (.int (many:Int)))]=.ok (.lst (((uV (Xs X) rs).take many).map xi)):=
  sl_ok (Yi (zk rfl) (zk rfl) (GU X rs h)) rfl (zc9 (blt2 (zk rfl) rfl hm)) (by rw[Tc,List.map_take])
 unfold xk
 rw[Ly,yj,st,yb,e];rfl
noncomputable def fr1(X:List (List Nat))(q:List Nat)(i:Nat):Option Rw:=(WK q (X.getD i [])).map fun t=>(t.1,i)
noncomputable def ZC:FS:=(zu (yn 5 (zv v7 (za (ze 1) (za (eOp ixD (ze 0) (ze 4)) zg))))
  (sIf (FD.tB (eOp uB (ze 5) (eC .non))) (uW 3 (yz (za (eOp ixD (ze 5) (eC (.int 0))) (za (ze 4) zg)))) zM))
theorem fit_b:vN=(zu (wQ 3 (fun τ=>(zg τ).bind fun ds=>if ds.length≤sizeLine then .ok ds else .no)) (zu (wR (ja (ze 2)) (gNm 4) ZC) (vH 3))):=by unfold vN ZC;rfl
theorem MD(e e2:FE)(a0 a1 a2 a3 a4 a5:Option Sl)(h:e [a0,a1,a2,a3,a4,a5]=.ok .non) :
  (zu (yn 5 e) (sIf (FD.tB (eOp uB (ze 5) (eC .non))) (uW 3 e2) zM)) [a0,a1,a2,a3,a4,a5]=.nx [a0,a1,a2,a3,a4,some (.val .non)]:=by
 simp only[zW,yd,yG,z8,vw,x9,yg,zJ,yU,getElem?_cons_zero,getElem?_cons_succ,set_cons_succ,set_cons_zero,zF,Rs.bind_ok,Fl.of_ok,ym,z5,Bool.false_eq_true,if_false,h,Wz]
theorem MC(e e2:FE)(a0 a1 a2 a4 a5:Option Sl)(L:List D)(t:Tl)(R:D)(h:e [a0,a1,a2,some (.own L),a4,a5]=.ok (tlD t))(h2:e2 [a0,a1,a2,some (.own L),a4,some (.val (tlD t))]=.ok R)(hl:L.length<sizeLine) :
  (zu (yn 5 e) (sIf (FD.tB (eOp uB (ze 5) (eC .non))) (uW 3 e2) zM)) [a0,a1,a2,some (.own L),a4,a5]=.nx [a0,a1,a2,some (.own (L++[R])),a4,some (.val (tlD t))]:=by
 simp only[zW,yd,yG,z8,vw,x9,yg,zJ,yU,getElem?_cons_zero,getElem?_cons_succ,set_cons_succ,set_cons_zero,zF,xg,Rs.bind_ok,Fl.of_ok,ym,z5,if_true,h,Ug,h2,vw,xg]
 rw[if_pos hl]
theorem MJ(X:List (List Nat))(q:List Nat)(i:Nat)(a2 a5:Option Sl)(acc:List Rw)(hi:i<X.length)(hq:q.length≤1000)(hX:∀x∈X,x.length≤1000)(ha:∀c∈q,c<128)(hc:acc.length≤1000) :
  ∃t5,ZC [some (.val (.lst (X.map tx))),some (.val (tx q)),a2,some (.own (acc.map xi)),some (.val (.int (i:Int))),a5]=.nx [some (.val (.lst (X.map tx))),some (.val (tx q)),a2,some (.own ((acc++(fr1 X q i).toList).map xi)),some (.val (.int (i:Int))),t5]:=by
 have hb:=M6 q (X.getD i []) hq (hX _ (getD_mem hi)) ha
 have he:zv v7 (za (ze 1) (za (eOp ixD (ze 0) (ze 4)) zg)) [some (.val (.lst (X.map tx))),some (.val (tx q)),a2,some (.own (acc.map xi)),some (.val (.int (i:Int))),a5]=.ok (jE (WK q (X.getD i []))):=
  Yi (zk rfl) (op2 (zk rfl) (zk rfl) (Xi X i hi)) hb
 unfold ZC fr1
 cases z:WK q (X.getD i []) with
 |none=>
  rw[z] at he
  exact⟨some (.val .non),(MD _ _ _ _ _ _ _ _ he).trans (by simp)⟩
 |some t=>
  rw[z] at he
  have h2:yz (za (eOp ixD (ze 5) (eC (.int 0))) (za (ze 4) zg)) [some (.val (.lst (X.map tx))),some (.val (tx q)),a2,some (.own (acc.map xi)),some (.val (.int (i:Int))),some (.val (tlD t))]=.ok (xi (t.1,i)):=uQ (op2 (zk rfl) rfl (J9 t)) (zk rfl)
  exact⟨some (.val (tlD t)),(MC _ _ _ _ _ _ _ _ t _ he h2 (by rw[z6,length_map];lia)).trans (by simp)⟩
noncomputable def U6(X:List (List Nat))(q:List Nat)(is:List Nat):List Rw:=is.flatMap fun i=>(fr1 X q i).toList
theorem Uq(X:List (List Nat))(q:List Nat)(a2:Option Sl)(hq:q.length≤1000)(hX:∀x∈X,x.length≤1000)(ha:∀c∈q,c<128):∀(is:List Nat) (acc:List Rw) (a4 a5:Option Sl),(∀i∈is,i<X.length)→acc.length+is.length≤1000 →
  ∃t4 t5,yJ (gNm 4) ZC (is.map fun (i:Nat)=>D.int i) [some (.val (.lst (X.map tx))),some (.val (tx q)),a2,some (.own (acc.map xi)),a4,a5]=.nx [some (.val (.lst (X.map tx))),some (.val (tx q)),a2,some (.own ((acc++U6 X q is).map xi)),t4,t5]:=by
 intro l_
 induction l_ with
 |nil=>
  rintro acc a4 a5 _ _
  exact⟨a4,a5,by unfold U6;simp[yJ]⟩
 |cons i is ih_=>
  rintro acc a4 a5 hi hc
  rw[length_cons] at hc
  refine byc fun zG=>?_
  obtain⟨t5,e⟩:=MJ X q i a2 a5 acc (hi i mem_cons_self) hq hX ha (by lia)
  have hl:(acc++(fr1 X q i).toList).length+is.length≤1000:=by
   rw[length_append]
   have:(fr1 X q i).toList.length≤1:=by cases fr1 X q i <;> simp
   lia
  obtain⟨u4,u5,ih⟩:=ih_ (acc++(fr1 X q i).toList) (some (.val (.int (i:Int)))) t5 (fun j hj=>hi j (mem_cons_of_mem _ hj)) hl
  refine zG ?_
  refine⟨u4,u5,?_⟩
  rw[map_cons,yJ,vd,Fl.of_ok]
  simp only[set_cons_succ,set_cons_zero,e]
  rw[ih]
  unfold U6
  rw[List.flatMap_cons,List.append_assoc]
theorem nilO(τ:DS):(fun τ=>(zg τ).bind fun ds=>if ds.length≤sizeLine then Rs.ok ds else Rs.no) τ=.ok []:=by
 show(if ([]:List D).length≤sizeLine then Rs.ok [] else Rs.no)=_
 exact if_pos (zero_le sizeLine)
theorem MB(e:FA)(b:FS)(A B C:D)(L R:List D)(t4 t5:Option Sl)(h0:e [some (.val A),some (.val B),some (.val C),none,none,none]=.ok [])(hi:JR C=.ok L)
  (h1:yJ (gNm 4) b L [some (.val A),some (.val B),some (.val C),some (.own []),none,none]=.nx [some (.val A),some (.val B),some (.val C),some (.own R),t4,t5]) :
  wg 6 (zu (wQ 3 e) (zu (wR (ja (ze 2)) (gNm 4) b) (vH 3))) [A,B,C]=.ok (.lst R):=by
 have st:yc 6 [A,B,C]=[some (.val A),some (.val B),some (.val C),none,none,none]:=rfl
 rw[yj,st]
 simp only[zW,wP,vi,vj,xY,YH,zJ,getElem?_cons_zero,getElem?_cons_succ,set_cons_succ,set_cons_zero,zF,xg,Rs.bind_ok,Fl.of_ok,ym,zZ,h0,hi,h1,wP,vi,vj,xg]
theorem Lx(X:List (List Nat))(q:List Nat)(is:List Nat)(hq:q.length≤1000)(hX:∀x∈X,x.length≤1000)(ha:∀c∈q,c<128)(hi:∀i∈is,i<X.length)(hl:is.length≤1000) :
  yO [.lst (X.map tx),tx q,.lst (is.map fun (i:Nat)=>D.int i)]=.ok (.lst ((U6 X q is).map xi)):=by
 obtain⟨t4,t5,h⟩:=Uq X q (some (.val (.lst (is.map fun (i:Nat)=>D.int i)))) hq hX ha is [] none none hi (by simpa using hl)
 unfold yO
 rw[fit_b]
 exact MB _ _ _ _ _ _ _ _ _ (nilO _) rfl (by simpa using h)
theorem WF:∀rs:List Rw,plainDs (rs.map xi)=true∧PyData.canLayAll0 (toPys (rs.map xi))=true∧PyData.depthAll (toPys (rs.map xi))≤1:=by
 intro l_
 induction l_ with
 |nil=>
  exact⟨rfl,rfl,zero_le _⟩
 |cons r rs ih_=>
  obtain⟨h1,h2,h3⟩:=ih_
  refine⟨by simp[plainDs,xt,xi,h1],by simp[toPys,y3,xi,PyData.canLayAll0,PyData.canLay0,h2],?_⟩
  simp only[map_cons,toPys,y3,xi,PyData.depthAll,PyData.depth]
  lia
noncomputable def abcN:List Nat:=[97,98,99]
theorem abc_s:("abc" : Str)=⟨abcN.toArray⟩:=by decide +kernel
theorem zh9:VC abcN:=⟨by decide,by decide,by decide⟩
theorem LG(X:List (List Nat))(h:X.length≤1000):zQ (.lst (X.map tx)) (.lst [.str "abc"])=.ok (.lst ((X++[abcN]).map tx)):=by
 show(if _ then Rs.ok (D.lst _) else Rs.no)=_
 rw[if_pos (by rw[z6,length_map,length_singleton];lia),map_append,abc_s]
 rfl
theorem zh3{f:List D→Rs D}{fa fb fc fd:FE}{τ:DS}{a b c d r:D}(h1:fa τ=.ok a)(h2:fb τ=.ok b)(h3:fc τ=.ok c)(h4:fd τ=.ok d)(h:f [a,b,c,d]=.ok r):zv f (za fa (za fb (za fc (za fd zg)))) τ=.ok r:=by
 rw[yF,zC,h1,Rs.bind_ok,zC,h2,Rs.bind_ok,zC,h3,Rs.bind_ok,zC,h4,Rs.bind_ok,zA,Rs.bind_ok,Rs.bind_ok,Rs.bind_ok,Rs.bind_ok,Rs.bind_ok,h];rfl
noncomputable def VA(X:List (List Nat))(q:List Nat):List Rw:=U6 X q (List.range X.length)
theorem XR(X:List (List Nat))(q:List Nat):∀is:List Nat,((U6 X q is).map (·.2)).Sublist is:=by
 intro l_
 induction l_ with
 |nil=>
  exact List.Sublist.refl _
 |cons i is ih_=>
  have ih:=ih_
  unfold U6 at ih ⊢
  rw[List.flatMap_cons,map_append]
  unfold fr1 at ih ⊢
  cases z:WK q (X.getD i []) with
  |none=>simp;exact List.Sublist.cons _ (by simpa using ih)
  |some t=>simp;exact(by simpa using ih)
theorem LP(X:List (List Nat))(q:List Nat)(hX:∀x∈X,x.length≤1000)(hl:X.length<64):zi2 X (VA X q):=by
 have s:=XR X q (List.range X.length)
 refine⟨?_,s.nodup List.nodup_range,fun r hr=>?_,hX⟩
 ·have:=s.length_le
  rw[length_map,length_range] at this
  unfold VA;lia
 ·have:=s.mem (mem_map.mpr ⟨r,hr,rfl⟩)
  simpa using this
theorem Tx(n:Nat):((List.range n).map fun (k:Nat)=>D.int (0+k))=(List.range n).map fun (i:Nat)=>D.int i:=List.map_congr_left fun k _=>by rw[Int.zero_add]
theorem all_b:j2=(yx (zv yO (za (ze 0) (za (ze 1) (za (fun τ=>((V9 (ww (za (yv yQ (za (ze 0) zg)) zg))) τ).bind fun ds=>.ok (.lst ds)) zg))))):=by unfold j2;rfl
theorem zh8(X:List (List Nat))(q:List Nat)(hq:q.length≤1000)(hX:∀x∈X,x.length≤1000)(ha:∀c∈q,c<128)(hl:X.length<64):wk [.lst (X.map tx),tx q]=.ok (.lst ((VA X q).map xi)):=by
 have st:yc 2 [.lst (X.map tx),tx q]=[some (.val (.lst (X.map tx))),some (.val (tx q))]:=rfl
 have r1:ww (za (yv yQ (za (ze 0) zg)) zg) [some (.val (.lst (X.map tx))),some (.val (tx q))]=.ok ((List.range X.length).map fun (i:Nat)=>D.int i):=by
  rw[← Tx]
  exact uX (j0 (zk rfl) (by rw[wU,length_map])) (by lia)
 have e:zv yO (za (ze 0) (za (ze 1) (za (fun τ=>((V9 (ww (za (yv yQ (za (ze 0) zg)) zg))) τ).bind fun ds=>.ok (.lst ds)) zg))) [some (.val (.lst (X.map tx))),some (.val (tx q))]=.ok (.lst ((VA X q).map xi)):=by
  refine vp (zk rfl) (zk rfl) ?_ (Lx X q (List.range X.length) hq hX ha (fun i hi=>mem_range.mp hi) (by rw[length_range];lia))
  unfold V9
  rw[r1,Rs.bind_ok,if_pos (by rw[length_map,length_range];lia)];rfl
 unfold wk
 rw[all_b,yj,st,yb,e];rfl
theorem Lz:Vx=(yx (zv xk (za (ze 0) (za (zv wk (za (ze 0) (za (ze 1) zg))) (za (ze 2) zg))))):=by unfold Vx;rfl
theorem MM(X:List (List Nat))(q:List Nat)(many:Nat)(hq:q.length≤1000)(hX:∀x∈X,x.length≤1000)(ha:∀c∈q,c<128)(hl:X.length<64):wt [.lst (X.map tx),tx q,.int (many:Int)]=.ok (.lst (((uV (Xs X) (VA X q)).take many).map xi)):=by
 have st:yc 3 [.lst (X.map tx),tx q,.int (many:Int)]=[some (.val (.lst (X.map tx))),some (.val (tx q)),some (.val (.int (many:Int)))]:=rfl
 have e:zv xk (za (ze 0) (za (zv wk (za (ze 0) (za (ze 1) zg))) (za (ze 2) zg))) [some (.val (.lst (X.map tx))),some (.val (tx q)),some (.val (.int (many:Int)))]=.ok (.lst (((uV (Xs X) (VA X q)).take many).map xi)):=
  vp (zk rfl) (Yi (zk rfl) (zk rfl) (zh8 X q hq hX ha hl)) (zk rfl) (ML X _ many (LP X q hX hl))
 unfold wt
 rw[Lz,yj,st,yb,e];rfl
theorem and_f{f g:FT}{τ:DS}(h1:f τ=.ok false):vm f g τ=.ok false:=by rw[vg,h1,Rs.bind_ok,if_neg (by simp)]
theorem and_t{f g:FT}{τ:DS}{b:Bool}(h1:f τ=.ok true)(h2:g τ=.ok b):vm f g τ=.ok b:=by rw[vg,h1,Rs.bind_ok,if_pos rfl,h2]
theorem zL{f g:FS}{τ τ':DS}(h:f τ=.nx τ'):zu f g τ=g τ':=by rw[zW,h,ym]
theorem if_f{g:FT}{a b:FS}{τ:DS}(h:g τ=.ok false):sIf g a b τ=b τ:=by rw[yG,h,Fl.of_ok,if_neg (by simp)]
theorem zg2{g:FT}{a b:FS}{τ:DS}(h:g τ=.ok true):sIf g a b τ=a τ:=by rw[yG,h,Fl.of_ok,if_pos rfl]
theorem Wc{g:FT}{a:FS}{τ:DS}(h:g τ=.ok false):sIf g a zM τ=.nx τ:=if_f h
theorem va{i:Nat}{fe:FE}{τ:DS}{d:D}(h:fe τ=.ok d):yn i fe τ=.nx (τ.set i (some (.val d))):=by rw[yd,h,Fl.of_ok]
theorem Jt{i:Nat}{ff:FA}{τ:DS}{ds:List D}(h:ff τ=.ok ds):wQ i ff τ=.nx (τ.set i (some (.own ds))):=by rw[wP,h,Fl.of_ok]
theorem uY{fe:FE}{τ:DS}{d:D}(h:fe τ=.ok d):yx fe τ=.rt d:=by rw[yb,h,Fl.of_ok]
theorem jq{fe:FE}{τ:DS}{d:D}(h:fe τ=.ok d):xP fe τ=.ro d τ:=by unfold xP;rw[h,Fl.of_ok]
theorem uh{τ:DS}{i n:Nat}{c:Str}{fs:Fs}(h:τ[i]?=some (some (.obj n c fs))):jG τ i c=.ok fs:=by unfold jG;rw[h];exact if_pos rfl
theorem X9{τ:DS}{i:Nat}{c:Str}{fs:Fs}(h:τ[i]?=some (some (.obr c fs))):jG τ i c=.ok fs:=by unfold jG;rw[h];exact if_pos rfl
theorem Qt{τ:DS}{i n:Nat}{c:Str}{fs:Fs}(h:τ[i]?=some (some (.obj n c fs))):uw τ i c=.ok (n,fs):=by unfold uw;rw[h];exact if_pos rfl
theorem J3{τ:DS}{i:Nat}{c f:Str}{fs:Fs}{d:D}(h:jG τ i c=.ok fs)(hf:yR f fs=some d):eAt i c f τ=.ok d:=by unfold eAt;rw[h,Rs.bind_ok,hf]
theorem jI{τ:DS}{i:Nat}{c f:Str}{fs:Fs}{ds:List D}(h:jG τ i c=.ok fs)(hf:yR f fs=some (.lst ds)):V1 τ i c f=.ok ds:=by unfold V1;rw[h,Rs.bind_ok,hf]
theorem UQ{τ:DS}{i n:Nat}{c f:Str}{fs:Fs}{ds:List D}(h:τ[i]?=some (some (.obj n c fs)))(hf:yR f fs=some (.lst ds)):omO τ i c f=.ok (n,fs,ds):=by unfold omO;rw[Qt h,Rs.bind_ok];show(match yR f fs with|some (.lst ds)=>Rs.ok (n,fs,ds) | _=>.no)=_;rw[hf]
theorem ro_ok{τ:DS}{i:Nat}{c f:Str}{fs:Fs}{ds:List D}(h:τ[i]?=some (some (.obr c fs)))(hf:yR f fs=some (.lst ds)):Gi τ i c f=.ok ds:=by unfold Gi;rw[h];show(if c=c then _ else _)=_;rw[if_pos rfl,hf]
theorem Ud{τ:DS}{i:Nat}{c f:Str}{ds:List D}(h:V1 τ i c f=.ok ds):vo i c f τ=.ok (.int ds.length):=by unfold vo;rw[h];rfl
theorem zf7{τ:DS}{i:Nat}{c f:Str}{ds:List D}{fi:FE}{k:Int}{d:D}(h:V1 τ i c f=.ok ds)(hi:fi τ=.ok (.int k))(hd:atI ds k=some d):XI i c f fi τ=.ok d:=by unfold XI;rw[h,Rs.bind_ok,hi,Rs.bind_ok];show(match atI ds k with|some d=>Rs.ok d|none=>.no)=_;rw[hd]
theorem zb0{τ:DS}{i n:Nat}{c f:Str}{fs:Fs}{d:D}{fe:FE}(he:fe τ=.ok d)(h:τ[i]?=some (some (.obj n c fs)))(hl:fs.length<1000):sAt i c f fe τ=.nx (τ.set i (some (.obj n c (xQ f d fs)))):=by
 unfold sAt;rw[he,Fl.of_ok,Qt h,Fl.of_ok];exact if_pos hl
theorem Za{τ:DS}{i n:Nat}{c f:Str}{fs:Fs}{ds:List D}{ff:FA}(he:ff τ=.ok ds)(h:τ[i]?=some (some (.obj n c fs)))(hl:fs.length<1000):jD i c f ff τ=.nx (τ.set i (some (.obj n c (xQ f (.lst ds) fs)))):=by
 unfold jD;rw[he,Fl.of_ok,Qt h,Fl.of_ok];exact if_pos hl
theorem LO{τ:DS}{i n:Nat}{c f:Str}{fs:Fs}{ds:List D}{d:D}{fe:FE}(h:τ[i]?=some (some (.obj n c fs)))(hf:yR f fs=some (.lst ds))(he:fe τ=.ok d)(hl:ds.length≤1000):VS i c f fe τ=.nx (τ.set i (some (.obj n c (xQ f (.lst (ds++[d])) fs)))):=by
 unfold VS;rw[UQ h hf,Fl.of_ok,he,Fl.of_ok];exact if_pos (by rw[z6];show ds.length<_;lia)
theorem wT{τ:DS}{i:Nat}{c m:Str}{g:Fs→List D→Rs D}{fa:FA}{o:Fs}{ds:List D}{d:D}(h:jG τ i c=.ok o)(hm:yR m o=none)(ha:fa τ=.ok ds)(hg:g o ds=.ok d):yp i c m g fa τ=.ok d:=by
 unfold yp;rw[h,Rs.bind_ok,hm,if_pos (by rfl),ha,Rs.bind_ok,hg];rfl
theorem vY{τ:DS}{i n:Nat}{c m:Str}{g:Fs→List D→Rs (D×Fs)}{fa:FA}{o o':Fs}{ds:List D}{d:D}(h:τ[i]?=some (some (.obj n c o)))(hm:yR m o=none)(ha:fa τ=.ok ds)(hg:g o ds=.ok (d,o')):xS i c m g fa τ=.ok (d,τ.set i (some (.obj n c o'))):=by
 unfold xS;rw[Qt h,Rs.bind_ok];show(if (yR m o).isNone=true then _ else _)=_;rw[hm,if_pos (by rfl),ha,Rs.bind_ok,hg]
theorem jB{τ:DS}{i n:Nat}{c:Str}{g:Fs→List D→Rs (D×Fs)}{f1 f2:FA}{o o':Fs}{ds1 ds2:List D}{d:D}(h:τ[i]?=some (some (.obj n c o)))(h1:f1 τ=.ok ds1)(h2:f2 τ=.ok ds2)(hg:g o (ds1++ds2)=.ok (d,o')):vW i c g f1 f2 τ=.ok (d,τ.set i (some (.obj n c o'))):=by
 unfold vW;rw[Qt h,Rs.bind_ok,h1,Rs.bind_ok,h2,Rs.bind_ok];show(match g o (ds1++ds2) with | .ok (d,o')=>Rs.ok (d,τ.set i (some (Sl.obj n c o'))) | _=>.no)=_;rw[hg]
theorem ZE{τ:DS}{i:Nat}{c:Str}{g:Fs→List D→Rs D}{f1 f2:FA}{o:Fs}{ds1 ds2:List D}{d:D}(h:jG τ i c=.ok o)(h1:f1 τ=.ok ds1)(h2:f2 τ=.ok ds2)(hg:g o (ds1++ds2)=.ok d):wC i c g f1 f2 τ=.ok d:=by
 unfold wC;rw[h,Rs.bind_ok,h1,Rs.bind_ok,h2,Rs.bind_ok,hg];rfl
theorem j4{fa:FE}{τ:DS}{a:D}(h:fa τ=.ok a):za fa zg τ=.ok [a]:=by rw[zC,h,Rs.bind_ok,zA,Rs.bind_ok]
theorem QU{fa fb:FE}{τ:DS}{a b:D}(h:fa τ=.ok a)(h2:fb τ=.ok b):za fa (za fb zg) τ=.ok [a,b]:=by rw[zC,h,Rs.bind_ok,j4 h2,Rs.bind_ok]
theorem wX{fo:FOb}{τ τ':DS}{d:D}(h:fo τ=.ok (d,τ')):xj fo τ=.nx τ':=by unfold xj;rw[h,Fl.of_ok]
theorem Tr{i:Nat}{fo:FOb}{τ τ':DS}{d:D}(h:fo τ=.ok (d,τ')):Wn i fo τ=.nx (τ'.set i (some (.val d))):=by unfold Wn;rw[h,Fl.of_ok]
theorem JJ{i:Nat}{c:Str}{g:Fs→List D→Rs (D×Fs)}{fa:FA}{τ:DS}{ds:List D}{o:Fs}(ha:fa τ=.ok ds)(hg:g [] ds=.ok (.non,o)):Zd i c g fa τ=.nx (τ.set i (some (.obj 0 c o))):=by
 unfold Zd;rw[ha,Fl.of_ok,hg]
theorem Jj{i h_:Nat}{c m c2:Str}{g:Fs→List D→Rs Fs}{τ:DS}{o o':Fs}(h:jG τ h_ c=.ok o)(hm:yR m o=none)(hg:g o []=.ok o'):Zc i h_ c m c2 g τ=.nx (τ.set i (some (.obj 0 c2 o'))):=by
 unfold Zc;rw[h,Fl.of_ok,hm,if_pos (by rfl),hg]
theorem UR{op:D→D→Rs D}{fo:FOb}{fb:FE}{τ τ':DS}{a b r:D}(h1:fo τ=.ok (a,τ'))(h2:fb τ'=.ok b)(h3:op a b=.ok r):oOp op fo fb τ=.ok (r,τ'):=by
 unfold oOp;rw[h1,Rs.bind_ok];show(fb τ').bind _=_;rw[h2,Rs.bind_ok];show(op a b).bind _=_;rw[h3];rfl
theorem T9{op:D→D→Rs D}{fo fb:FOb}{τ τ' τ'':DS}{a b r:D}(h1:fo τ=.ok (a,τ'))(h2:fb τ'=.ok (b,τ''))(h3:op a b=.ok r):Qv op fo fb τ=.ok (r,τ''):=by
 unfold Qv;rw[h1,Rs.bind_ok];show(fb τ').bind _=_;rw[h2,Rs.bind_ok];show(op a b).bind _=_;rw[h3];rfl
theorem V7{fo:FOb}{τ τ':DS}{b:Bool}(h:fo τ=.ok (.bl b,τ')):oB fo τ=.ok (b,τ'):=by unfold oB;rw[h];rfl
theorem La{g:j6}{τ τ':DS}{b:Bool}(h:g τ=.ok (b,τ')):V6 g τ=.ok (!b,τ'):=by unfold V6;rw[h];rfl
theorem YD{g:FT}{τ:DS}{b:Bool}(h:g τ=.ok b):ZV g τ=.ok (b,τ):=by unfold ZV;rw[h];rfl
theorem JE{ga gb:j6}{τ τ' τ'':DS}{b:Bool}(h1:ga τ=.ok (false,τ'))(h2:gb τ'=.ok (b,τ'')):Xh ga gb τ=.ok (b,τ''):=by
 unfold Xh;rw[h1,Rs.bind_ok];show(if false=true then _ else gb τ')=_;rw[if_neg (by simp),h2]
theorem Um{g:j6}{a:FS}{τ τ':DS}(h:g τ=.ok (false,τ')):ZQ g a zM τ=.nx τ':=by
 unfold ZQ;rw[h,Fl.of_ok];show(if false=true then _ else zM τ')=_;rw[if_neg (by simp)];rfl
noncomputable def je:FS:=(sIf (vm (FD.tB (eOp ltI (uO 2) (yv yQ (za (ze 0) zg)))) (jP (zv x6 (za (eOp ixD (ze 0) (uO 2)) (za (eOp ixD (ze 1) (ze 3)) zg))))) (uW 2 (ze 3)) zM)
theorem JX(q x:List Nat)(hq:q.length≤1000)(hx:x.length≤1000)(ha:∀c∈q,c<128):∀(m k:Nat) (b:List Nat) (s:Option Sl),k+m=x.length→b.length≤k →
  ∃s',yJ (gNm 3) je ((List.range' k m).map fun (k:Nat)=>D.int (0+k)) [some (.val (tx q)),some (.val (tx x)),some (.own (b.map fun (k:Nat)=>D.int k)),s]
   = .nx [some (.val (tx q)),some (.val (tx x)),some (.own ((b++epR (q.drop b.length) (x.drop k) k).map fun (k:Nat)=>D.int k)),s']:=by
 intro l_
 induction l_ with
 |zero=>
  rintro k b s h hb
  have:x.drop k=[]:=List.drop_eq_nil_of_le (by lia)
  rw[this]
  have e:epR (q.drop b.length) [] k=[]:=by cases q.drop b.length <;> rfl
  rw[e,append_nil]
  exact⟨s,rfl⟩
 |succ m ih_=>
  rintro k b s h hb
  have hk:k<x.length:=by lia
  have hxk:=QZ x k x[k] (getElem?_eq_getElem hk) hx
  rw[range'_succ,map_cons,yJ,vd,Fl.of_ok,drop_eq_getElem_cons hk]
  simp only[set_cons_succ,set_cons_zero,Int.zero_add]
  have ih:=fun b' s' h'=>ih_ (k+1) b' s' (by lia) h'
  simp only[Int.zero_add] at ih
  by_cases hl:b.length<q.length
  ·have hqb:=QZ q b.length q[b.length] (getElem?_eq_getElem hl) hq
   have hbz:b.length<sizeLine:=by rw[z6];lia
   have hmt:=Xk q[b.length] x[k] (ha _ (getElem_mem hl))
   rw[drop_eq_getElem_cons hl]
   by_cases hm:wy q[b.length] x[k]=true
   ·obtain⟨s',e⟩:=ih (b++[k]) (some (.val (.int k))) (by simp;lia)
    refine⟨s',?_⟩
    have:je [some (.val (tx q)),some (.val (tx x)),some (.own (b.map fun (k:Nat)=>D.int k)),some (.val (.int k))]=.nx [some (.val (tx q)),some (.val (tx x)),some (.own ((b++[k]).map fun (k:Nat)=>D.int k)),some (.val (.int k))]:=by
     unfold je
     simp only[yG,z8,vw,ZD,x9,vR,vg,yg,zJ,zA,zC,yF,wY,getElem?_cons_zero,getElem?_cons_succ,set_cons_succ,set_cons_zero,zF,xg,Rs.bind_ok,Fl.of_ok,xK,z5,vq,JM,if_true,length_map,vG q hq,Int.ofNat_lt,hl,decide_true,hqb,hxk,hmt,hm,hbz,map_append,map_cons,map_nil]
    simp only[this]
    rw[e]
    simp only[epR,hm,if_true,List.append_assoc,List.cons_append,nil_append,length_append,length_cons,length_nil,zero_add]
   ·obtain⟨s',e⟩:=ih b (some (.val (.int k))) (by lia)
    refine⟨s',?_⟩
    have hm':wy q[b.length] x[k]=false:=by simpa using hm
    have:je [some (.val (tx q)),some (.val (tx x)),some (.own (b.map fun (k:Nat)=>D.int k)),some (.val (.int k))]=.nx [some (.val (tx q)),some (.val (tx x)),some (.own (b.map fun (k:Nat)=>D.int k)),some (.val (.int k))]:=by
     unfold je
     simp only[yG,z8,vw,ZD,x9,vR,vg,yg,zJ,zA,zC,yF,wY,getElem?_cons_zero,getElem?_cons_succ,set_cons_succ,set_cons_zero,zF,xg,Rs.bind_ok,Fl.of_ok,xK,z5,vq,JM,if_true,Bool.false_eq_true,if_false,length_map,vG q hq,Int.ofNat_lt,hl,decide_true,hqb,hxk,hmt,hm']
    simp only[this]
    rw[e,drop_eq_getElem_cons hl]
    simp only[epR,hm',Bool.false_eq_true,if_false]
  ·obtain⟨s',e⟩:=ih b (some (.val (.int k))) (by lia)
   refine⟨s',?_⟩
   have:je [some (.val (tx q)),some (.val (tx x)),some (.own (b.map fun (k:Nat)=>D.int k)),some (.val (.int k))]=.nx [some (.val (tx q)),some (.val (tx x)),some (.own (b.map fun (k:Nat)=>D.int k)),some (.val (.int k))]:=by
    unfold je
    simp only[yG,z8,vw,ZD,x9,vR,vg,yg,zJ,zA,zC,yF,wY,getElem?_cons_zero,getElem?_cons_succ,set_cons_succ,set_cons_zero,zF,xg,Rs.bind_ok,Fl.of_ok,z5,JM,Bool.false_eq_true,if_false,length_map,vG q hq,Int.ofNat_lt,hl,decide_false]
   simp only[this]
   rw[e,List.drop_eq_nil_of_le (by lia:q.length≤b.length)]
   simp only[epR]
theorem ep_ok(q x:List Nat)(hq:q.length≤1000)(hx:x.length≤1000)(ha:∀c∈q,c<128):yT [tx q,tx x]=.ok (nts (epR q x 0)):=by
 have st:yc 4 [tx q,tx x]=[some (.val (tx q)),some (.val (tx x)),none,none]:=rfl
 obtain⟨s',e⟩:=JX q x hq hx ha x.length 0 [] none (by lia) (le_refl _)
 unfold je at e
 have r1:=WW (fs:=za (yv yQ (za (ze 1) zg)) zg) (τ:=[some (.val (tx q)),some (.val (tx x)),some (.own []),none]) (j:=x.length) (by simp only[zJ,zA,zC,wY,getElem?_cons_zero,getElem?_cons_succ,zF,Rs.bind_ok,vG x hx]) (by lia) (by lia)
 unfold yT v5
 rw[yj,st]
 simp only[zW,wP,xY,zA,set_cons_succ,set_cons_zero,Rs.bind_ok,Fl.of_ok,ym,if_true,length_nil,zero_le,r1,uR,Int.toNat_natCast]
 rw[List.range_eq_range']
 rw[show([]:List D)=([]:List Nat).map fun (k:Nat)=>D.int k from rfl,e]
 simp only[vi,vj,getElem?_cons_zero,getElem?_cons_succ,xg,Fl.of_ok,ym,zZ,nil_append,length_nil,List.drop_zero]
theorem MI(q x:List Nat)(hq:q.length≤1000)(hx:x.length≤1000)(ha:∀c∈q,c<128):u8 [tx q,tx x]=.ok (.bl (YQ q x)):=by
 have st:yc 2 [tx q,tx x]=[some (.val (tx q)),some (.val (tx x))]:=rfl
 unfold u8 M2
 rw[yj,st]
 simp only[yb,yg,zJ,zA,zC,yF,wY,getElem?_cons_zero,getElem?_cons_succ,zF,Rs.bind_ok,Fl.of_ok,zZ,xK,vL,wU,ep_ok q x hq hx ha,vG q hq,length_map]
 congr 2
 rw[Bool.eq_iff_iff,← XG q x 0,beq_iff_eq]
 lia
noncomputable def SR(X:List (List Nat))(q:List Nat):List Rw:=uV (Xs X) (VA X q)
theorem Tj(X:List (List Nat))(q:List Nat):(SR X q).Perm (VA X q):=UD _ _
theorem za9(X:List (List Nat))(q:List Nat):(SR X q).length≤X.length:=by
 rw[(Tj X q).length_eq]
 have:=(XR X q (List.range X.length)).length_le
 rw[length_map,length_range] at this
 unfold VA;exact this
theorem WE(X:List (List Nat))(q:List Nat)(many:Nat)(hm:X.length≤many)(hq:q.length≤1000)(hX:∀x∈X,x.length≤1000)(ha:∀c∈q,c<128)(hl:X.length<64):wt [.lst (X.map tx),tx q,.int (many:Int)]=.ok (.lst ((SR X q).map xi)):=by
 rw[MM X q many hq hX ha hl]
 have:=za9 X q
 unfold SR at this ⊢
 rw[List.take_of_length_le (by lia)]
noncomputable def gd:Nat→D→Prop
 |_,.str x=>PyData.strOk x=true
 |_,.int _=>True
 |_,.bl _=>True
 |_,.non=>True
 |n+1,.lst ds=>∀d∈ds,gd n d
 |n+1,.tup ds=>∀d∈ds,gd n d
 |_,_=>False
theorem U5{n:Nat}(ih:∀d,gd n d→xt d=true∧(y3 d).canLay0=true∧(y3 d).depth≤n∧PyData.eqv (y3 d) (y3 d)=true):∀ds:List D,(∀d∈ds,gd n d)→plainDs ds=true∧PyData.canLayAll0 (toPys ds)=true∧PyData.depthAll (toPys ds)≤n∧PyData.eqvAll (toPys ds) (toPys ds)=true:=by
 intro l_
 induction l_ with
 |nil=>
  rintro _
  exact⟨rfl,rfl,zero_le _,by simp[toPys,PyData.eqvAll]⟩
 |cons d ds ih_=>
  rintro h
  refine byc fun zG=>?_
  obtain⟨a1,a2,a3,a4⟩:=ih d (h d mem_cons_self)
  obtain⟨b1,b2,b3,b4⟩:=ih_ fun e he=>h e (mem_cons_of_mem _ he)
  refine zG ?_
  refine⟨by simp[plainDs,a1,b1],by simp[toPys,PyData.canLayAll0,a2,b2],?_,by simp[toPys,PyData.eqvAll,a4,b4]⟩
  simp only[toPys,PyData.depthAll]
  lia
theorem MG:∀(n:Nat) (d:D),gd n d→xt d=true∧(y3 d).canLay0=true∧(y3 d).depth≤n∧PyData.eqv (y3 d) (y3 d)=true
 |n,.str x,h=>⟨by simp[xt],by simpa[y3,PyData.canLay0,gd] using h,by simp[y3,PyData.depth],by simp[y3,PyData.eqv]⟩
 |n,.int _,h=>⟨by simp[xt],by simp[y3,PyData.canLay0],by simp[y3,PyData.depth],by simp[y3,PyData.eqv]⟩
 |n,.bl _,h=>⟨by simp[xt],by simp[y3,PyData.canLay0],by simp[y3,PyData.depth],by simp[y3,PyData.eqv]⟩
 |n,.non,h=>⟨by simp[xt],by simp[y3,PyData.canLay0],by simp[y3,PyData.depth],by simp[y3,PyData.eqv]⟩
 |n+1,.lst ds,h=>by
  refine byc fun zG=>?_
  obtain⟨b1,b2,b3,b4⟩:=U5 (MG n) ds (by simpa[gd] using h)
  refine zG ?_
  exact⟨by simpa[xt] using b1,by simpa[y3,PyData.canLay0] using b2,by simpa[y3,PyData.depth] using b3,by simpa[y3,PyData.eqv] using b4⟩
 |n+1,.tup ds,h=>by
  refine byc fun zG=>?_
  obtain⟨b1,b2,b3,b4⟩:=U5 (MG n) ds (by simpa[gd] using h)
  refine zG ?_
  exact⟨by simpa[xt] using b1,by simpa[y3,PyData.canLay0] using b2,by simpa[y3,PyData.depth] using b3,by simpa[y3,PyData.eqv] using b4⟩
 |0,.lst ds,h=>by simp[gd] at h
 |0,.tup ds,h=>by simp[gd] at h
 |0,.scr ds,h=>by simp[gd] at h
 |0,.raw ds,h=>by simp[gd] at h
 |0,.exc ds,h=>by simp[gd] at h
 |n+1,.scr ds,h=>by simp[gd] at h
 |n+1,.raw ds,h=>by simp[gd] at h
 |n+1,.exc ds,h=>by simp[gd] at h
 |0,.dct _ _,h=>by simp[gd] at h
 |n+1,.dct _ _,h=>by simp[gd] at h
theorem MF{n:Nat}{d:D}(h:gd n d)(hn:n≤60):okD d=true∧um d d=true:=by
 refine byc fun zG=>?_
 obtain⟨a,b,c,e⟩:=MG n d h
 refine zG ?_
 refine⟨?_,e⟩
 have:(y3 d).depth≤60:=by lia
 simp[okD,a,b,this]
theorem UT{n:Nat}{ds:List D}(h:gd n (.tup ds))(hn:n≤60):neD (.tup ds) (.tup ds)=.ok (.bl false):=by
 obtain⟨a,b⟩:=MF h hn
 unfold neD
 simp only[a,and_self,if_true,b,Bool.not_true]
theorem MN{n:Nat}{ds:List D}(h:gd n (.tup ds))(hn:n≤60):eqD (.tup ds) (.tup ds)=.ok (.bl true):=by
 obtain⟨a,b⟩:=MF h hn
 unfold eqD
 simp only[a,and_self,if_true,b]
inductive Stp where
 | ask (q:List Nat) | pick (k:Nat)
noncomputable def kdD:Stp→D
 |.ask _=>.str "ask"
 |.pick _=>.str "pick"
noncomputable def thD:Stp→D
 |.ask q=>tx q
 |.pick k=>.int (k:Int)
noncomputable def stD(s:Stp):D:=.tup [kdD s,thD s]
noncomputable def okS:Stp→Prop
 |.ask q=>q.length≤1000∧∀c∈q,c<128
 |.pick _=>True
theorem U3{n:Nat}{x:Str}(h:PyData.strOk x=true):gd n (.str x):=by cases n <;> exact h
theorem ME{n:Nat}{q:List Nat}(h:∀c∈q,c<128):gd n (tx q):=by
 refine U3 ?_
 simp[PyData.strOk]
 intro c hc
 have:=h c hc
 lia
theorem gd_kd{n:Nat}(s:Stp):gd n (kdD s):=by
 cases s
 ·exact U3 (by decide +kernel)
 ·exact U3 (by decide +kernel)
theorem gd_st{n:Nat}{s:Stp}(h:okS s):gd (n+1) (stD s):=by
 show ∀d∈[kdD s,thD s],gd n d
 intro d hd
 rcases mem_cons.mp hd with rfl|hd
 ·exact gd_kd s
 ·obtain rfl:=mem_singleton.mp hd
  cases s with
  |ask q=>exact ME h.2
  |pick k=>cases n <;> exact trivial
noncomputable def jm(dn:List Stp):List Nat:=match dn.getLast? with
 | some (.ask q)=>q
 |_=>[]
theorem Vz{dn:List Stp}(h:∀s∈dn,okS s):(jm dn).length≤1000∧∀c∈jm dn,c<128:=by
 unfold jm
 split
 ·rename_i q e
  exact h _ (List.mem_of_getLast? e)
 ·exact⟨by simp,by simp⟩
noncomputable def chs:List Stp→List Nat→List (List Nat×Nat)
 |[],_=>[]
 |.ask a::l,_=>chs l a
 |.pick k::l,q=>(q,k)::chs l []
theorem Jc:∀(l:List Stp) (q:List Nat),(∀s∈l,okS s)→(∀c∈q,c<128)→∀p∈chs l q,∀c∈p.1,c<128
 |[],_,_,_,p,hp=>by cases hp
 |.ask a::l,q,h,_,p,hp=>Jc l a (fun s hs=>h s (mem_cons_of_mem _ hs)) (h _ mem_cons_self).2 p hp
 |.pick k::l,q,h,hq,p,hp=>by
  rcases mem_cons.mp hp with rfl|hp
  ·exact hq
  ·exact Jc l [] (fun s hs=>h s (mem_cons_of_mem _ hs)) (by simp) p hp
noncomputable def pkD(p:List Nat×Nat):D:=.tup [tx p.1,.int (p.2:Int)]
noncomputable def uk(dn:List Stp):D:=.tup [tx (jm dn),.lst ((chs dn []).map pkD),.lst (dn.map stD)]
theorem U4{dn:List Stp}(h:∀s∈dn,okS s):gd 3 (uk dn):=by
 show ∀d∈[tx (jm dn),.lst ((chs dn []).map pkD),.lst (dn.map stD)],gd 2 d
 intro d hd
 rcases mem_cons.mp hd with rfl|hd
 ·exact ME (Vz h).2
 rcases mem_cons.mp hd with rfl|hd
 ·intro e he
  obtain⟨p,hp,rfl⟩:=mem_map.mp he
  intro f hf
  rcases mem_cons.mp hf with rfl|hf
  ·exact ME (Jc dn [] h (by simp) p hp)
  ·obtain rfl:=mem_singleton.mp hf;exact trivial
 ·obtain rfl:=mem_singleton.mp hd
  intro e he
  obtain⟨s,hs,rfl⟩:=mem_map.mp he
  exact gd_st (h s hs)
noncomputable def TG(X:List (List Nat))(dn un:List Stp):Fs:=[("names", .lst (X.map tx)),("done", .lst (dn.map stD)),("undone", .lst (un.map stD))]
section
variable(X:List (List Nat))(dn un:List Stp)
theorem j8:yR "names" (TG X dn un)=some (.lst (X.map tx)):=by unfold TG;rw[yR,if_pos rfl]
theorem vt:yR "done" (TG X dn un)=some (.lst (dn.map stD)):=by unfold TG;rw[yR,if_neg (by decide +kernel),yR,if_pos rfl]
theorem ud:yR "undone" (TG X dn un)=some (.lst (un.map stD)):=by unfold TG;rw[yR,if_neg (by decide +kernel),yR,if_neg (by decide +kernel),yR,if_pos rfl]
theorem vf{m:Str}(h1:¬ m = "names")(h2:¬ m = "done")(h3:¬ m = "undone"):yR m (TG X dn un)=none:=by unfold TG;rw[yR,if_neg h1,yR,if_neg h2,yR,if_neg h3];rfl
theorem UB:(TG X dn un).length<1000:=by show 3<1000;decide
theorem Zh(l:List Stp):xQ "done" (.lst (l.map stD)) (TG X dn un)=TG X l un:=by unfold TG;rw[xQ,if_neg (by decide +kernel),xQ,if_pos rfl]
theorem uv(l:List Stp):xQ "undone" (.lst (l.map stD)) (TG X dn un)=TG X dn l:=by unfold TG;rw[xQ,if_neg (by decide +kernel),xQ,if_neg (by decide +kernel),xQ,if_pos rfl]
end
theorem Vl(l:List Stp)(s:Stp):atI ((l++[s]).map stD) (-1)=some (stD s):=by
 unfold atI ixN
 rw[if_neg (by lia),if_pos (by simp;lia)]
 have:(-1+(((l++[s]).map stD).length:Int)).toNat=l.length:=by simp;lia
 show((l++[s]).map stD)[(-1+(((l++[s]).map stD).length:Int)).toNat]?=_
 rw[this]
 simp
theorem Tg(s:Stp):ixD (stD s) (.int 0)=.ok (kdD s):=rfl
theorem st_1(s:Stp):ixD (stD s) (.int 1)=.ok (thD s):=rfl
theorem MP(s:Stp):eqD (kdD s) (.str "ask")=.ok (.bl (match s with | .ask _=>true | .pick _=>false)):=by
 cases s <;> rfl
theorem LA(s:Stp):eqD (kdD s) (.str "pick")=.ok (.bl (match s with | .ask _=>false | .pick _=>true)):=by
 cases s <;> rfl
theorem G4(s:Stp):neD (kdD s) (kdD s)=.ok (.bl false):=by
 cases s <;> rfl
theorem zg1:ve=(zu (sAt 0 "Trail" "names" (yv Mj (za (ze 1) zg)))
  (zu (jD 0 "Trail" "done" (fun τ=>(zg τ).bind fun ds=>if ds.length≤sizeLine then .ok ds else .no))
  (jD 0 "Trail" "undone" (fun τ=>(zg τ).bind fun ds=>if ds.length≤sizeLine then .ok ds else .no)))):=by unfold ve;rfl
theorem Ve{τ:DS}:(fun τ:DS=>(zg τ).bind fun ds=>if ds.length≤sizeLine then Rs.ok ds else .no) τ=.ok ([]:List D):=by
 show(zg τ).bind _=_
 rw[zA,Rs.bind_ok]
 exact if_pos (zero_le _)
noncomputable def ti1(X:List (List Nat)):Fs:=[("names", .lst (X.map tx))]
noncomputable def ti2(X:List (List Nat)):Fs:=[("names", .lst (X.map tx)),("done", .lst [])]
theorem JV(X:List (List Nat)):ya [] [.lst (X.map tx)]=.ok (.non,TG X [] []):=by
 have st:y8 (.obj 1 "Trail" []) 0 2 [.lst (X.map tx)]=[some (.obj 1 "Trail" []),some (.val (.lst (X.map tx)))]:=rfl
 have p1:xQ "names" (.lst (X.map tx)) []=(ti1 X):=rfl
 have p2:xQ "done" (.lst []) (ti1 X)=(ti2 X):=by unfold ti1 ti2;rw[xQ,if_neg (by decide +kernel),xQ]
 have p3:xQ "undone" (.lst []) (ti2 X)=TG X [] []:=by unfold ti2;rw[xQ,if_neg (by decide +kernel),xQ,if_neg (by decide +kernel),xQ];rfl
 unfold ya vy
 rw[zg1,st,zL (zb0 (d:=.lst (X.map tx)) (j0 (zk rfl) rfl) rfl (by decide)),p1]
 rw[zL (Za (ds:=[]) (fs:=(ti1 X)) Ve rfl (show 1<1000 by decide)),p2]
 rw[Za (ds:=[]) (fs:=(ti2 X)) Ve rfl (show 2<1000 by decide),p3]
 rfl
theorem Tp:ua=(yx (yz (za (vo 0 "Trail" "done") (za (vo 0 "Trail" "undone") zg)))):=by unfold ua;rfl
theorem YR(X:List (List Nat))(dn un:List Stp):zG (TG X dn un) []=.ok (.tup [.int (dn.length:Int),.int (un.length:Int)]):=by
 have st:y8 (.obr "Trail" (TG X dn un)) 0 1 []=[some (.obr "Trail" (TG X dn un))]:=rfl
 unfold zG Ze
 rw[Tp,st,uY (uQ (Ud (jI (X9 rfl) (vt X dn un))) (Ud (jI (X9 rfl) (ud X dn un)))),length_map,length_map];rfl
theorem za8:uJ=(zu (VS 0 "Trail" "done" (yz (za (ze 1) (za (ze 2) zg))))
  (jD 0 "Trail" "undone" (fun τ=>(zg τ).bind fun ds=>if ds.length≤sizeLine then .ok ds else .no))):=by unfold uJ;rfl
theorem Jp(X:List (List Nat))(dn un:List Stp)(s:Stp)(hd:dn.length≤1000):yZ (TG X dn un) [kdD s,thD s]=.ok (.non,TG X (dn++[s]) []):=by
 have st:y8 (.obj 1 "Trail" (TG X dn un)) 0 3 [kdD s,thD s]=[some (.obj 1 "Trail" (TG X dn un)),some (.val (kdD s)),some (.val (thD s))]:=rfl
 have e:dn.map stD++[.tup [kdD s,thD s]]=(dn++[s]).map stD:=by rw[map_append];rfl
 unfold yZ vy
 rw[za8,st,zL (LO (fs:=TG X dn un) rfl (vt X dn un) (uQ (zk rfl) (zk rfl)) (by rw[length_map];exact hd)),e,Zh]
 rw[Za (ds:=[]) (fs:=TG X (dn++[s]) un) Ve rfl (UB ..),show(.lst []:D)=.lst (([]:List Stp).map stD) from rfl,uv]
 rfl
theorem LN:uc=(zu (sIf (vm (FD.tB (eOp gtD (vo 0 "Trail" "done") (eC (.int 0)))) (FD.tB (eOp eqD (eOp ixD (XI 0 "Trail" "done" (xh (eC (.int 1)))) (eC (.int 0))) (eC (.str "ask"))))) (yx (eOp ixD (XI 0 "Trail" "done" (xh (eC (.int 1)))) (eC (.int 1)))) zM)
  (yx (eC (.str "")))):=by unfold uc;rfl
theorem XO(X:List (List Nat))(dn un:List Stp):z0 (TG X dn un) []=.ok (tx (jm dn)):=by
 have st:y8 (.obr "Trail" (TG X dn un)) 0 1 []=[some (.obr "Trail" (TG X dn un))]:=rfl
 unfold z0 Ze
 rw[LN,st]
 have o:=jI (τ:=[some (.obr "Trail" (TG X dn un))]) (i:=0) (X9 rfl) (vt X dn un)
 have hl:=Ud o
 rw[length_map] at hl
 rcases List.eq_nil_or_concat dn with rfl|⟨l,s,rfl⟩
 ·rw[zL (Wc (and_f (xO (op2 hl rfl WB)))),uY (d:=tx []) rfl];rfl
 ·rw[List.concat_eq_append] at *
  have la:=zf7 (fi:=xh (eC (.int 1))) o (k:=-1) rfl (Vl l s)
  have c1:FD.tB (eOp gtD (vo 0 "Trail" "done") (eC (.int 0))) [some (.obr "Trail" (TG X (l++[s]) un))]=.ok true:=by
   refine xO (op2 hl rfl ?_)
   rw[WB];congr 2;simp
  have c2:=and_t c1 (xO (op2 (op2 (fb:=eC (.int 0)) la rfl (Tg s)) (fb:=eC (.str "ask")) rfl (MP s)))
  cases s with
  |ask q=>
   have:jm (l++[.ask q])=q:=by unfold jm;rw[List.getLast?_concat]
   rw[this]
   rw[zW,zg2 c2,uY (op2 la rfl (st_1 (.ask q)))];rfl
  |pick k=>
   have:jm (l++[.pick k])=[]:=by unfold jm;rw[List.getLast?_concat]
   rw[this,zL (Wc c2),uY (d:=tx []) rfl];rfl
noncomputable def uD:FS:=(zu (sIf (FD.tB (eOp eqD (ze 3) (eC (.str "pick")))) (uW 1 (yz (za (ze 2) (za (ze 4) zg)))) zM)
  (yn 2 (eIf (FD.tB (eOp eqD (ze 3) (eC (.str "ask")))) (ze 4) (eC (.str "")))))
theorem MX:vP=(zu (wQ 1 (fun τ=>(zg τ).bind fun ds=>if ds.length≤sizeLine then .ok ds else .no))
  (zu (yn 2 (eC (.str "")))
  (zu (Wo 0 "Trail" "done" (gPr 3 4) uD)
  (vH 1)))):=by unfold vP uD;rfl
theorem eIf_t{g:FT}{fa fb:FE}{τ:DS}{d:D}(h:g τ=.ok true)(h2:fa τ=.ok d):eIf g fa fb τ=.ok d:=by unfold eIf;rw[h,Rs.bind_ok,if_pos rfl,h2]
theorem eIf_f{g:FT}{fa fb:FE}{τ:DS}{d:D}(h:g τ=.ok false)(h2:fb τ=.ok d):eIf g fa fb τ=.ok d:=by unfold eIf;rw[h,Rs.bind_ok,if_neg (by simp),h2]
theorem M4{n:Nat}{fe:FE}{τ:DS}{ds:List D}{d:D}(h:τ[n]?=some (some (.own ds)))(he:fe τ=.ok d)(hl:ds.length≤1000):uW n fe τ=.nx (τ.set n (some (.own (ds++[d])))):=by
 rw[vw,h]
 show Fl.of (Rs.ok ds) _=_
 rw[Fl.of_ok,he,Fl.of_ok,if_pos (by rw[z6];lia)]
theorem Vu(o:Option Sl):∀(l:List Stp) (acc:List (List Nat×Nat)) (q:List Nat) (t3 t4:Option Sl),acc.length+l.length≤1000→∃a2 a3 a4,yJ (gPr 3 4) uD (l.map stD) [o,some (.own (acc.map pkD)),some (.val (tx q)),t3,t4]=.nx [o,some (.own ((acc++chs l q).map pkD)),a2,a3,a4]:=by
 intro l_
 induction l_ with
 |nil=>
  rintro acc q t3 t4 _
  exact⟨_,_,_,by rw[chs,append_nil];rfl⟩
 |cons s l ih_=>
  rintro acc q t3 t4 h
  have hs:gPr 3 4 (stD s) [o,some (.own (acc.map pkD)),some (.val (tx q)),t3,t4]=.ok [o,some (.own (acc.map pkD)),some (.val (tx q)),some (.val (kdD s)),some (.val (thD s))]:=rfl
  have c1:∀A B,FD.tB (eOp eqD (ze 3) (eC (.str "pick"))) [o,A,B,some (.val (kdD s)),some (.val (thD s))]=_:=fun A B=>xO (op2 (zk rfl) rfl (LA s))
  have c2:∀A B,FD.tB (eOp eqD (ze 3) (eC (.str "ask"))) [o,A,B,some (.val (kdD s)),some (.val (thD s))]=_:=fun A B=>xO (op2 (zk rfl) rfl (MP s))
  rw[length_cons] at h
  rw[map_cons,yJ,hs,Fl.of_ok]
  cases s with
  |ask a=>
   refine byc fun zG=>?_
   obtain⟨a2,a3,a4,e⟩:=ih_ acc a (some (.val (kdD (.ask a)))) (some (.val (thD (.ask a)))) (by lia)
   refine zG ?_
   refine⟨a2,a3,a4,?_⟩
   have:uD [o,some (.own (acc.map pkD)),some (.val (tx q)),some (.val (kdD (.ask a))),some (.val (thD (.ask a)))]=.nx [o,some (.own (acc.map pkD)),some (.val (tx a)),some (.val (kdD (.ask a))),some (.val (thD (.ask a)))]:=by
    unfold uD
    rw[zL (Wc (c1 _ _)),va (eIf_t (c2 _ _) (zk rfl))];rfl
   rw[this]
   exact e
  |pick k=>
   refine byc fun zG=>?_
   obtain⟨a2,a3,a4,e⟩:=ih_ (acc++[(q,k)]) [] (some (.val (kdD (.pick k)))) (some (.val (thD (.pick k)))) (by simp;lia)
   refine zG ?_
   refine⟨a2,a3,a4,?_⟩
   have:uD [o,some (.own (acc.map pkD)),some (.val (tx q)),some (.val (kdD (.pick k))),some (.val (thD (.pick k)))]=.nx [o,some (.own ((acc++[(q,k)]).map pkD)),some (.val (tx [])),some (.val (kdD (.pick k))),some (.val (thD (.pick k)))]:=by
    unfold uD
    have w:(sIf (FD.tB (eOp eqD (ze 3) (eC (.str "pick")))) (uW 1 (yz (za (ze 2) (za (ze 4) zg)))) zM) [o,some (.own (acc.map pkD)),some (.val (tx q)),some (.val (kdD (.pick k))),some (.val (thD (.pick k)))]=.nx [o,some (.own ((acc++[(q,k)]).map pkD)),some (.val (tx q)),some (.val (kdD (.pick k))),some (.val (thD (.pick k)))]:=by
     rw[zg2 (c1 _ _),M4 (ds:=acc.map pkD) (d:=pkD (q,k)) rfl (uQ (zk rfl) (zk rfl)) (by rw[length_map];lia),map_append];rfl
    rw[zL w,va (d:=tx []) (eIf_f (c2 _ _) rfl)];rfl
   rw[this]
   rw[chs,show acc++(q,k)::chs l []=(acc++[(q,k)])++chs l [] by simp]
   exact e
theorem QO(X:List (List Nat))(dn un:List Stp)(hd:dn.length≤1000):xu (TG X dn un) []=.ok (.lst ((chs dn []).map pkD)):=by
 have st:y8 (.obr "Trail" (TG X dn un)) 0 5 []=[some (.obr "Trail" (TG X dn un)),none,none,none,none]:=rfl
 refine byc fun zG=>?_
 obtain⟨a2,a3,a4,e⟩:=Vu (some (.obr "Trail" (TG X dn un))) dn [] [] none none (by simpa using hd)
 refine zG ?_
 unfold xu Ze
 rw[MX,st,zL (Jt Ve),zL (va (d:=tx []) rfl)]
 have:Wo 0 "Trail" "done" (gPr 3 4) uD [some (.obr "Trail" (TG X dn un)),some (.own []),some (.val (tx [])),none,none]=.nx [some (.obr "Trail" (TG X dn un)),some (.own ((chs dn []).map pkD)),a2,a3,a4]:=by
  unfold Wo
  rw[ro_ok rfl (vt X dn un),Fl.of_ok]
  exact e
 show WD ((zu (Wo 0 "Trail" "done" (gPr 3 4) uD) (vH 1)) [some (.obr "Trail" (TG X dn un)),some (.own []),some (.val (tx [])),none,none])=_
 rw[zL this];rfl
theorem Tf:v9=(yx (fun τ=>((wZ 2 [] (iOw 0 "Trail" "done") (gPr 0 1) (fun _=>.ok true) (yz (za (ze 0) (za (ze 1) zg)))) τ).bind fun ds=>.ok (.lst ds))):=by unfold v9;rfl
theorem VN(X:List (List Nat))(dn un:List Stp)(hd:dn.length≤1000):yA (TG X dn un) []=.ok (.lst (dn.map stD)):=by
 have st:y8 (.obr "Trail" (TG X dn un)) 0 1 []=[some (.obr "Trail" (TG X dn un))]:=rfl
 have cf:=jf (set:=gPr 0 1) (fe:=(yz (za (ze 0) (za (ze 1) zg)))) (τ:=[none,none]) stD stD (fun s=>s) dn fun s _=>⟨[some (.val (kdD s)),some (.val (thD s))],rfl,uQ (zk rfl) (zk rfl)⟩
 rw[List.map_id'] at cf
 have ec:=uC (k:=2) (idx:=[]) (fi:=iOw 0 "Trail" "done") (τ:=[some (.obr "Trail" (TG X dn un))]) (jI (X9 rfl) (vt X dn un)) cf (by rw[length_map];exact hd)
 unfold yA Ze
 rw[Tf,st,uY (d:=.lst (dn.map stD)) (by show Rs.bind _ _=_;rw[ec];rfl)];rfl
theorem now_b:j3=(yx (yz (za (yp 0 "Trail" "asked" z0 zg) (za (yp 0 "Trail" "chosen" xu zg) (za (yp 0 "Trail" "steps" yA zg) zg))))):=by unfold j3;rfl
theorem Vh(X:List (List Nat))(dn un:List Stp):yR "asked" (TG X dn un)=none:=vf _ _ _ (by decide +kernel) (by decide +kernel) (by decide +kernel)
theorem Mb(X:List (List Nat))(dn un:List Stp):yR "chosen" (TG X dn un)=none:=vf _ _ _ (by decide +kernel) (by decide +kernel) (by decide +kernel)
theorem JG(X:List (List Nat))(dn un:List Stp):yR "steps" (TG X dn un)=none:=vf _ _ _ (by decide +kernel) (by decide +kernel) (by decide +kernel)
theorem Ma(X:List (List Nat))(dn un:List Stp):yR "step" (TG X dn un)=none:=vf _ _ _ (by decide +kernel) (by decide +kernel) (by decide +kernel)
theorem Vg(X:List (List Nat))(dn un:List Stp):yR "sizes" (TG X dn un)=none:=vf _ _ _ (by decide +kernel) (by decide +kernel) (by decide +kernel)
theorem Mc(X:List (List Nat))(dn un:List Stp):yR "back" (TG X dn un)=none:=vf _ _ _ (by decide +kernel) (by decide +kernel) (by decide +kernel)
theorem JH(X:List (List Nat))(dn un:List Stp):yR "forth" (TG X dn un)=none:=vf _ _ _ (by decide +kernel) (by decide +kernel) (by decide +kernel)
theorem ze5(X:List (List Nat))(dn un:List Stp):yR "pick" (TG X dn un)=none:=vf _ _ _ (by decide +kernel) (by decide +kernel) (by decide +kernel)
theorem n_ask(X:List (List Nat))(dn un:List Stp):yR "ask" (TG X dn un)=none:=vf _ _ _ (by decide +kernel) (by decide +kernel) (by decide +kernel)
theorem G9(X:List (List Nat))(dn un:List Stp):yR "twin" (TG X dn un)=none:=vf _ _ _ (by decide +kernel) (by decide +kernel) (by decide +kernel)
theorem US(X:List (List Nat))(dn un:List Stp)(hd:dn.length≤1000):zK (TG X dn un) []=.ok (uk dn):=by
 have st:y8 (.obr "Trail" (TG X dn un)) 0 1 []=[some (.obr "Trail" (TG X dn un))]:=rfl
 unfold zK Ze
 rw[now_b,st,uY (za4 (wT (X9 rfl) (Vh X dn un) zA (XO X dn un)) (wT (X9 rfl) (Mb X dn un) zA (QO X dn un hd)) (wT (X9 rfl) (JG X dn un) zA (VN X dn un hd)))];rfl
theorem WL{τ:DS}{i n:Nat}{c f g:Str}{fs:Fs}{ds es:List D}{d:D}(h:τ[i]?=some (some (.obj n c fs)))(hf:yR f fs=some (.lst ds))(hg:yR g fs=some (.lst (es++[d])))(hl:ds.length≤1000) :
  vx i c f g τ=.nx ((τ.set i (some (.obj n c (xQ g (.lst es) fs)))).set i (some (.obj n c (xQ f (.lst (ds++[d])) (xQ g (.lst es) fs))))):=by
 unfold vx
 rw[UQ h hf,Fl.of_ok,UQ h hg,Fl.of_ok]
 have e1:(es++[d])[(es++[d]).length-1]?=some d:=by simp
 have e2:(es++[d]).dropLast=es:=by simp
 show(match (es++[d])[(es++[d]).length-1]? with|some d=>_|none=>_)=_
 rw[e1]
 show(if _ then _ else _)=_
 rw[if_pos (by rw[z6];show ds.length<_;lia)]
 show Fl.nx ((τ.set i (some (.obj n c (xQ g (.lst (es++[d]).dropLast) fs)))).set i (some (.obj n c (xQ f (.lst (ds++[d])) (xQ g (.lst (es++[d]).dropLast) fs)))))=_
 rw[e2]
theorem zh6:uL=(zu (sIf (FD.tB (eOp eqD (vo 0 "Trail" "done") (eC (.int 0)))) sNo zM)
  (zu (vx 0 "Trail" "undone" "done")
  (xP (eOp ixD (XI 0 "Trail" "undone" (xh (eC (.int 1)))) (eC (.int 0)))))):=by unfold uL;rfl
theorem LK(X:List (List Nat))(l un:List Stp)(s:Stp)(hu:un.length≤1000):yf (TG X (l++[s]) un) []=.ok (kdD s,TG X l (un++[s])):=by
 have st:y8 (.obj 1 "Trail" (TG X (l++[s]) un)) 0 1 []=[some (.obj 1 "Trail" (TG X (l++[s]) un))]:=rfl
 have hd:=vt X (l++[s]) un
 have hl:=Ud (jI (τ:=[some (.obj 1 "Trail" (TG X (l++[s]) un))]) (i:=0) (uh rfl) hd)
 have g:FD.tB (eOp eqD (vo 0 "Trail" "done") (eC (.int 0))) [some (.obj 1 "Trail" (TG X (l++[s]) un))]=.ok false:=by
  refine xO (op2 hl rfl ?_)
  rw[vL];congr 2;simp;lia
 rw[map_append] at hd
 have p:=WL (τ:=[some (.obj 1 "Trail" (TG X (l++[s]) un))]) (i:=0) rfl (ud X (l++[s]) un) (d:=stD s) hd (by rw[length_map];exact hu)
 rw[Zh,show un.map stD++[stD s]=(un++[s]).map stD by rw[map_append];rfl,uv] at p
 have q:vx 0 "Trail" "undone" "done" [some (.obj 1 "Trail" (TG X (l++[s]) un))]=.nx [some (.obj 1 "Trail" (TG X l (un++[s])))]:=p
 unfold yf vy
 rw[zh6,st,zL (Wc g),zL q,jq (op2 (zf7 (fi:=xh (eC (.int 1))) (jI (uh rfl) (ud X l (un++[s]))) (k:=-1) rfl (Vl un s)) rfl (Tg s))];rfl
theorem Lw:ub=(zu (sIf (FD.tB (eOp eqD (vo 0 "Trail" "undone") (eC (.int 0)))) sNo zM)
  (zu (vx 0 "Trail" "done" "undone")
  (xP (eOp ixD (XI 0 "Trail" "done" (xh (eC (.int 1)))) (eC (.int 0)))))):=by unfold ub;rfl
theorem MH(X:List (List Nat))(l un:List Stp)(s:Stp)(hu:l.length≤1000):yo (TG X l (un++[s])) []=.ok (kdD s,TG X (l++[s]) un):=by
 have st:y8 (.obj 1 "Trail" (TG X l (un++[s]))) 0 1 []=[some (.obj 1 "Trail" (TG X l (un++[s])))]:=rfl
 have hd:=ud X l (un++[s])
 have hl:=Ud (jI (τ:=[some (.obj 1 "Trail" (TG X l (un++[s])))]) (i:=0) (uh rfl) hd)
 have g:FD.tB (eOp eqD (vo 0 "Trail" "undone") (eC (.int 0))) [some (.obj 1 "Trail" (TG X l (un++[s])))]=.ok false:=by
  refine xO (op2 hl rfl ?_)
  rw[vL];congr 2;simp;lia
 rw[map_append] at hd
 have p:=WL (τ:=[some (.obj 1 "Trail" (TG X l (un++[s])))]) (i:=0) rfl (vt X l (un++[s])) (d:=stD s) hd (by rw[length_map];exact hu)
 rw[uv,show l.map stD++[stD s]=(l++[s]).map stD by rw[map_append];rfl,Zh] at p
 have q:vx 0 "Trail" "done" "undone" [some (.obj 1 "Trail" (TG X l (un++[s])))]=.nx [some (.obj 1 "Trail" (TG X (l++[s]) un))]:=p
 unfold yo vy
 rw[Lw,st,zL (Wc g),zL q,jq (op2 (zf7 (fi:=xh (eC (.int 1))) (jI (uh rfl) (vt X (l++[s]) un)) (k:=-1) rfl (Vl l s)) rfl (Tg s))];rfl
theorem za3:uI=(zu (Zd 1 "Trail" ya (za (eAt 0 "Trail" "names") zg))
  (zu (jD 1 "Trail" "done" (iOw 0 "Trail" "done"))
  (zu (jD 1 "Trail" "undone" (iOw 0 "Trail" "undone"))
  (Ju 1 "Trail")))):=by unfold uI;rfl
theorem Ji(X:List (List Nat))(dn un:List Stp):yK (TG X dn un) []=.ok (TG X dn un):=by
 have st:y8 (.obr "Trail" (TG X dn un)) 0 2 []=[some (.obr "Trail" (TG X dn un)),none]:=rfl
 unfold yK Gf
 rw[za3,st,zL (JJ (j4 (J3 (X9 rfl) (j8 X dn un))) (JV X))]
 have h1:jD 1 "Trail" "done" (iOw 0 "Trail" "done") [some (.obr "Trail" (TG X dn un)),some (.obj 0 "Trail" (TG X [] []))]=.nx [some (.obr "Trail" (TG X dn un)),some (.obj 0 "Trail" (TG X dn []))]:=by
  rw[Za (fs:=TG X [] []) (n:=0) (jI (X9 rfl) (vt X dn un)) rfl (UB ..),Zh];rfl
 have h2:jD 1 "Trail" "undone" (iOw 0 "Trail" "undone") [some (.obr "Trail" (TG X dn un)),some (.obj 0 "Trail" (TG X dn []))]=.nx [some (.obr "Trail" (TG X dn un)),some (.obj 0 "Trail" (TG X dn un))]:=by
  rw[Za (fs:=TG X dn []) (n:=0) (jI (X9 rfl) (ud X dn un)) rfl (UB ..),uv];rfl
 show flO "Trail" ((zu (jD 1 "Trail" "done" (iOw 0 "Trail" "done")) _) [some (.obr "Trail" (TG X dn un)),some (.obj 0 "Trail" (TG X [] []))])=_
 rw[zL h1,zL h2]
 unfold Ju
 rw[Qt (n:=0) (fs:=TG X dn un) rfl,Fl.of_ok]
 rfl
theorem ze3(rs:List Rw):neD (.lst (rs.map xi)) (.lst [])=.ok (.bl (!rs.isEmpty)):=by
 obtain⟨a,b,c⟩:=WF rs
 have ok:okD (.lst (rs.map xi))=true:=by
  simp[okD,xt,y3,PyData.canLay0,PyData.depth,a,b]
  lia
 have ok2:okD (.lst [])=true:=by decide +kernel
 have ev:um (.lst (rs.map xi)) (.lst [])=rs.isEmpty:=by
  cases rs <;> simp[um,y3,toPys,PyData.eqv,PyData.eqvAll]
 unfold neD
 simp only[ok,ok2,and_self,if_true,ev]
theorem Tv(rs:List Rw)(i:Nat)(h:i<rs.length):ixD (.lst (rs.map xi)) (.int (i:Int))=.ok (xi rs[i]):=by
 refine jy (jl (by lia) ?_)
 simp[getElem?_eq_getElem h]
theorem JO{set:FG}{body:FS}{d:D}{r:List D}{τ τ1 τ2:DS}(h1:set d τ=.ok τ1)(h2:body τ1=.nx τ2):yJ set body (d::r) τ=yJ set body r τ2:=by rw[yJ,h1,Fl.of_ok,h2]
theorem zb7:uK=(zu (yn 2 (zv wt (za (eAt 0 "Trail" "names") (za (yp 0 "Trail" "asked" z0 zg) (za (yv yQ (za (eAt 0 "Trail" "names") zg)) zg)))))
  (zu (sIf (YO (FD.tB (eOp ltI (ze 1) (eC (.int 0)))) (FD.tB (eOp geD (ze 1) (yv yQ (za (ze 2) zg))))) sNo zM)
  (zu (yn 3 (eOp ixD (eOp ixD (ze 2) (ze 1)) (eC (.int 1))))
  (zu (xj (xS 0 "Trail" "step" yZ (za (eC (.str "pick")) (za (ze 3) zg))))
  (xP (ze 3)))))):=by unfold uK;rfl
theorem TN(X:List (List Nat))(dn un:List Stp)(i:Nat)(hi:i<(SR X (jm dn)).length)(hd:dn.length≤1000)(hs:∀s∈dn,okS s)(hX:∀x∈X,x.length≤1000)(hl:X.length<64) :
  wu (TG X dn un) [.int (i:Int)]=.ok (.int ((SR X (jm dn))[i].2:Int),TG X (dn++[.pick (SR X (jm dn))[i].2]) []):=by
 have st:y8 (.obj 1 "Trail" (TG X dn un)) 0 4 [.int (i:Int)]=[some (.obj 1 "Trail" (TG X dn un)),some (.val (.int (i:Int))),none,none]:=rfl
 obtain⟨q1,q2⟩:=Vz hs
 have f:=WE X (jm dn) X.length (le_refl _) q1 hX q2 hl
 generalize SR X (jm dn)=R at *
 have e1:zv wt (za (eAt 0 "Trail" "names") (za (yp 0 "Trail" "asked" z0 zg) (za (yv yQ (za (eAt 0 "Trail" "names") zg)) zg))) [some (.obj 1 "Trail" (TG X dn un)),some (.val (.int (i:Int))),none,none]=.ok (.lst (R.map xi)):=
  vp (J3 (uh rfl) (j8 X dn un)) (wT (uh rfl) (Vh X dn un) zA (XO X dn un)) (j0 (J3 (uh rfl) (j8 X dn un)) (by rw[wU,length_map])) f
 have g:YO (FD.tB (eOp ltI (ze 1) (eC (.int 0)))) (FD.tB (eOp geD (ze 1) (yv yQ (za (ze 2) zg)))) [some (.obj 1 "Trail" (TG X dn un)),some (.val (.int (i:Int))),some (.val (.lst (R.map xi))),none]=.ok false:=by
  refine LX (xO (op2 (zk rfl) rfl ?_)) (xO (op2 (zk rfl) (j0 (zk rfl) wU) ?_))
  ·rw[JM,decide_eq_false (by lia)]
  ·rw[geD_i,length_map,decide_eq_false (by lia)]
 unfold wu vy
 rw[zb7,st,zL (va e1)]
 show flM 0 "Trail" ((zu _ _) [some (.obj 1 "Trail" (TG X dn un)),some (.val (.int (i:Int))),some (.val (.lst (R.map xi))),none])=_
 rw[zL (Wc g),zL (va (op2 (op2 (zk rfl) (zk rfl) (Tv R i hi)) rfl (Gh _)))]
 show flM 0 "Trail" ((zu _ _) [some (.obj 1 "Trail" (TG X dn un)),some (.val (.int (i:Int))),some (.val (.lst (R.map xi))),some (.val (.int (R[i].2:Int)))])=_
 rw[zL (wX (vY (n:=1) (o:=TG X dn un) rfl (Ma X dn un) (QU rfl (zk rfl)) (Jp X dn un (.pick R[i].2) hd))),jq (zk rfl)]
 rfl
theorem ask_b:jk=(zu (xj (xS 0 "Trail" "step" yZ (za (eC (.str "ask")) (za (ze 1) zg))))
  (xP (yv yQ (za (fun τ=>((wZ 1 [1] (ja (eAt 0 "Trail" "names")) (gNm 0) (jP (zv u8 (za (ze 1) (za (ze 0) zg)))) (ze 0)) τ).bind fun ds=>.ok (.lst ds)) zg)))):=by unfold jk;rfl
theorem zh7(X:List (List Nat))(dn un:List Stp)(q:List Nat)(hq:q.length≤1000)(ha:∀c∈q,c<128)(hd:dn.length≤1000)(hX:∀x∈X,x.length≤1000)(hl:X.length<64) :
  ∃d,wM (TG X dn un) [tx q]=.ok (d,TG X (dn++[.ask q]) []):=by
 have st:y8 (.obj 1 "Trail" (TG X dn un)) 0 2 [tx q]=[some (.obj 1 "Trail" (TG X dn un)),some (.val (tx q))]:=rfl
 have cf:=v0 (set:=gNm 0) (ft:=(jP (zv u8 (za (ze 1) (za (ze 0) zg))))) (fe:=ze 0) (τ:=[none,some (.val (tx q))]) tx tx (fun x=>YQ q x) X fun x hx=>
  ⟨[some (.val (tx x)),some (.val (tx q))],rfl,tru_ok (Yi (zk rfl) (zk rfl) (MI q x hq (hX x hx) ha)),zk rfl⟩
 have it:ja (eAt 0 "Trail" "names") [some (.obj 1 "Trail" (TG X (dn++[.ask q]) [])),some (.val (tx q))]=.ok (X.map tx):=by
  rw[YH,J3 (uh rfl) (j8 X _ _)];rfl
 have ec:=uC (k:=1) (idx:=[1]) it cf (by rw[length_map];have:=List.length_filter_le (fun x=>YQ q x) X;lia)
 unfold wM vy
 refine⟨.int (((X.filter fun x=>YQ q x).map tx).length:Int),?_⟩
 rw[ask_b,st,zL (wX (vY (n:=1) (o:=TG X dn un) rfl (Ma X dn un) (QU rfl (zk rfl)) (Jp X dn un (.ask q) hd)))]
 show flM 0 "Trail" (xP _ [some (.obj 1 "Trail" (TG X (dn++[.ask q]) [])),some (.val (tx q))])=_
 rw[jq (j0 (a:=.lst ((X.filter fun x=>YQ q x).map tx)) (by show Rs.bind _ _=_;rw[ec];rfl) wU)]
 rfl
theorem Ta:uF=(yx (zv xM (za (ze 0) (za (ze 1) (za (eOp ixD (eOp zQ (ze 2) (vB (za (eC (.str "abc")) zg))) (zv zq (za (ze 0) (za (eOp zQ (ze 1) (eC (.int 30))) (za (eOp zQ (yv yQ (za (ze 2) zg)) (eC (.int 1))) zg))))) (za (eC (.int 3)) zg)))))):=by unfold uF;rfl
theorem QX(ns:List Int)(X:List (List Nat))(a:Int)(h63:ns.length≤63)(ha0:0≤a)(ha:a<800000)(hX:∀x∈X,VC x)(hl:X.length≤1000) :
  ∃q:List Nat,(q.length:Int)≤3∧(∀c∈q,c∈QS)∧xL [.scr ns,.int a,.lst (X.map tx)]=.ok (tx q):=by
 have st:yc 3 [.scr ns,.int a,.lst (X.map tx)]=[some (.val (.scr ns)),some (.val (.int a)),some (.val (.lst (X.map tx)))]:=rfl
 have dl:=wF ns (a+30) (m:=(X.length:Int)+1) (by lia)
 have dk:=wx ns (a+30) ((X.length:Int)+1) h63 (by lia) (by lia) (by lia)
 generalize x8 ns (a+30) ((X.length:Int)+1)=M at dl dk
 have hi:M.toNat<(X++[abcN]).length:=by rw[length_append,length_singleton];lia
 have hm':(X++[abcN]).getD M.toNat []∈X++[abcN]:=getD_mem hi
 have hn:VC ((X++[abcN]).getD M.toNat []):=by
  rcases mem_append.mp hm' with z|z
  ·exact hX _ z
  ·have:(X++[abcN]).getD M.toNat []=abcN:=by simpa using z
   rw[this];exact zh9
 refine byc fun zG=>?_
 obtain⟨q,q1,q2,q3⟩:=Gm ns a ((X++[abcN]).getD M.toNat []) 3 h63 ha0 (by lia) (by decide) (by decide) hn.1 (le_trans hn.2.1 (by decide)) hn.2.2
 refine zG ?_
 refine⟨q,q1,q2,?_⟩
 have ix:=Xi (X++[abcN]) M.toNat hi
 rw[Int.toNat_of_nonneg dl.1] at ix
 unfold xL
 rw[Ta,yj,st,uY (zh3 (zk rfl) (zk rfl) (op2 (op2 (zk rfl) (Mg rfl) (LG X hl)) (vp (zk rfl) (op2 (zk rfl) rfl yI) (op2 (j0 (zk rfl) wU) rfl (by rw[length_map];exact yI)) dk) ix) rfl q3)]
 rfl
theorem JN:ji=(zu (yn 4 (zv wt (za (ze 3) (za (yp 2 "Trail" "asked" z0 zg) (za (yv yQ (za (ze 3) zg)) zg)))))
  (sIf (vm (FD.tB (eOp neD (ze 4) (vB zg))) (FD.tB (eOp eqD (zv zq (za (ze 0) (za (ze 1) (za (eC (.int 3)) zg)))) (eC (.int 0))))) (xj (xS 2 "Trail" "pick" wu (za (zv zq (za (ze 0) (za (eOp zQ (ze 1) (eC (.int 1))) (za (yv yQ (za (ze 4) zg)) zg)))) zg))) (xj (xS 2 "Trail" "ask" wM (za (zv xL (za (ze 0) (za (eOp zQ (ze 1) (eC (.int 2))) (za (ze 3) zg)))) zg))))):=by unfold ji;rfl
theorem qs_lt{c:Nat}(h:c∈QS):c<128:=by
 revert c;decide
theorem Xo(ns:List Int)(X:List (List Nat))(a:Int)(dn:List Stp)(h63:ns.length≤63)(ha0:0≤a)(ha:a<700000)(hX:∀x∈X,VC x)(hl:X.length<64)(hd:dn.length≤1000)(hs:∀s∈dn,okS s) :
  ∃s,okS s∧∀un,yP (TG X dn un) [.scr ns,.int a,.lst (X.map tx)]=.ok (.non,TG X (dn++[s]) []):=by
 have st:∀un,y8 (.obj 1 "Trail" (TG X dn un)) 2 5 [.scr ns,.int a,.lst (X.map tx)]=[some (.val (.scr ns)),some (.val (.int a)),some (.obj 1 "Trail" (TG X dn un)),some (.val (.lst (X.map tx))),none]:=fun _=>rfl
 obtain⟨q1,q2⟩:=Vz hs
 have hX2:∀x∈X,x.length≤1000:=fun x hx=>le_trans (hX x hx).2.1 (by decide)
 have f:=WE X (jm dn) X.length (le_refl _) q1 hX2 q2 hl
 have hpk:=fun un i hi=>TN X dn un i hi hd hs hX2 hl
 generalize SR X (jm dn)=R at *
 have e1:∀un,zv wt (za (ze 3) (za (yp 2 "Trail" "asked" z0 zg) (za (yv yQ (za (ze 3) zg)) zg))) [some (.val (.scr ns)),some (.val (.int a)),some (.obj 1 "Trail" (TG X dn un)),some (.val (.lst (X.map tx))),none]=.ok (.lst (R.map xi)):=fun un=>
  vp (zk rfl) (wT (uh rfl) (Vh X dn un) zA (XO X dn un)) (j0 (zk rfl) (by rw[wU,length_map])) f
 have dk:=wx ns a 3 h63 ha0 (by lia) (by decide)
 generalize x8 ns a 3=M at dk
 have g:∀un,vm (FD.tB (eOp neD (ze 4) (vB zg))) (FD.tB (eOp eqD (zv zq (za (ze 0) (za (ze 1) (za (eC (.int 3)) zg)))) (eC (.int 0)))) [some (.val (.scr ns)),some (.val (.int a)),some (.obj 1 "Trail" (TG X dn un)),some (.val (.lst (X.map tx))),some (.val (.lst (R.map xi)))]=.ok (!R.isEmpty&&(M==0)):=fun un=>
  L9 (xO (op2 (zk rfl) Lb (ze3 R))) fun _=>xO (op2 (vp (zk rfl) (zk rfl) rfl dk) rfl vL)
 by_cases c:(!R.isEmpty&&(M==0))=true
 ·rw[c] at g
  have hR:0<R.length:=by
   rw[Bool.and_eq_true] at c
   cases R with
   |nil=>simp at c
   |cons r R=>simp
  have dl2:=wF ns (a+1) (m:=(R.length:Int)) (by lia)
  have dk2:=wx ns (a+1) (R.length:Int) h63 (by lia) (by lia) (by lia)
  generalize x8 ns (a+1) (R.length:Int)=N at dk2 dl2
  have hi:N.toNat<R.length:=by lia
  have eN:((N.toNat:Nat):Int)=N:=Int.toNat_of_nonneg dl2.1
  refine⟨.pick R[N.toNat].2,trivial,fun un=>?_⟩
  unfold yP vy
  rw[JN,st,zL (va (e1 un))]
  show flM 2 "Trail" (sIf _ _ _ [some (.val (.scr ns)),some (.val (.int a)),some (.obj 1 "Trail" (TG X dn un)),some (.val (.lst (X.map tx))),some (.val (.lst (R.map xi)))])=_
  have hp:=hpk un N.toNat hi
  rw[eN] at hp
  rw[zg2 (g un),wX (vY (n:=1) (o:=TG X dn un) rfl (ze5 X dn un) (j4 (vp (zk rfl) (op2 (zk rfl) rfl yI) (j0 (zk rfl) (by rw[wU,length_map])) dk2)) hp)]
  rfl
 ·have c':(!R.isEmpty&&(M==0))=false:=by simpa using c
  rw[c'] at g
  refine byc fun zG=>?_
  obtain⟨q,p1,p2,p3⟩:=QX ns X (a+2) h63 (by lia) (by lia) hX (by lia)
  refine zG ?_
  have hq:q.length≤1000:=by lia
  have hqa:∀c∈q,c<128:=fun c hc=>qs_lt (p2 c hc)
  refine⟨.ask q,⟨hq,hqa⟩,fun un=>?_⟩
  obtain⟨d,hk⟩:=zh7 X dn un q hq hqa hd hX2 hl
  unfold yP vy
  rw[JN,st,zL (va (e1 un))]
  show flM 2 "Trail" (sIf _ _ _ [some (.val (.scr ns)),some (.val (.int a)),some (.obj 1 "Trail" (TG X dn un)),some (.val (.lst (X.map tx))),some (.val (.lst (R.map xi)))])=_
  rw[if_f (g un),wX (vY (n:=1) (o:=TG X dn un) rfl (n_ask X dn un) (j4 (vp (zk rfl) (op2 (zk rfl) rfl yI) (zk rfl) p3)) hk)]
  rfl
noncomputable def jc:FS:=(xj (vW 1 "Trail" yP (za (ze 0) (za (eOp zQ (eC (.int 600)) (eOp vQ (eC (.int 50)) (ze 3))) zg)) (za (ze 2) zg)))
theorem go_b:uH=(zu (wR (ww (za (eC (.int 2)) zg)) (gNm 3) jc)
  (xP (yz (za (wC 1 "Trail" zK zg zg) (za (yp 1 "Trail" "sizes" zG zg) zg))))):=by unfold uH jc;rfl
noncomputable def yu(dn:List Stp)(u:Nat):D:=.tup [uk dn,.tup [.int (dn.length:Int),.int (u:Int)]]
theorem zg6{dn:List Stp}(u:Nat)(h:∀s∈dn,okS s):gd 4 (yu dn u):=by
 intro d hd
 rcases mem_cons.mp hd with rfl|hd
 ·exact U4 h
 ·obtain rfl:=mem_singleton.mp hd
  intro e he
  rcases mem_cons.mp he with rfl|he
  ·exact trivial
  ·obtain rfl:=mem_singleton.mp he;exact trivial
theorem go_ok(ns:List Int)(X:List (List Nat))(dn:List Stp)(h63:ns.length≤63)(hX:∀x∈X,VC x)(hl:X.length<64)(hd:dn.length≤900)(hs:∀s∈dn,okS s) :
  ∃s1 s2,okS s1∧okS s2∧∀un,xN (TG X dn un) [.scr ns,.lst (X.map tx)]=.ok (yu (dn++[s1]++[s2]) 0,TG X (dn++[s1]++[s2]) []):=by
 refine byc fun zG=>?_
 obtain⟨s1,o1,h1⟩:=Xo ns X (600+50*0) dn h63 (by decide) (by decide) hX hl (by lia) hs
 have hs1:∀s∈dn++[s1],okS s:=fun s h=>by
  rcases mem_append.mp h with h|h
  ·exact hs s h
  ·obtain rfl:=mem_singleton.mp h;exact o1
 obtain⟨s2,o2,h2⟩:=Xo ns X (600+50*1) (dn++[s1]) h63 (by decide) (by decide) hX hl (by simp;lia) hs1
 refine zG ?_
 refine⟨s1,s2,o1,o2,fun un=>?_⟩
 have st:y8 (.obj 1 "Trail" (TG X dn un)) 1 4 [.scr ns,.lst (X.map tx)]=[some (.val (.scr ns)),some (.obj 1 "Trail" (TG X dn un)),some (.val (.lst (X.map tx))),none]:=rfl
 have r2:ww (za (eC (.int 2)) zg) [some (.val (.scr ns)),some (.obj 1 "Trail" (TG X dn un)),some (.val (.lst (X.map tx))),none]=.ok ((List.range 2).map fun (k:Nat)=>D.int (0+k)):=uX (n:=2) rfl (by decide)
 have b1:jc [some (.val (.scr ns)),some (.obj 1 "Trail" (TG X dn un)),some (.val (.lst (X.map tx))),some (.val (.int 0))]=.nx [some (.val (.scr ns)),some (.obj 1 "Trail" (TG X (dn++[s1]) [])),some (.val (.lst (X.map tx))),some (.val (.int 0))]:=by
  unfold jc
  rw[wX (jB (n:=1) (o:=TG X dn un) rfl (QU (zk rfl) (op2 rfl (op2 rfl (zk rfl) (vK (by decide))) yI)) (j4 (zk rfl)) (h1 un))];rfl
 have b2:jc [some (.val (.scr ns)),some (.obj 1 "Trail" (TG X (dn++[s1]) [])),some (.val (.lst (X.map tx))),some (.val (.int 1))]=.nx [some (.val (.scr ns)),some (.obj 1 "Trail" (TG X (dn++[s1]++[s2]) [])),some (.val (.lst (X.map tx))),some (.val (.int 1))]:=by
  unfold jc
  rw[wX (jB (n:=1) (o:=TG X (dn++[s1]) []) rfl (QU (zk rfl) (op2 rfl (op2 rfl (zk rfl) (vK (by decide))) yI)) (j4 (zk rfl)) (h2 []))];rfl
 have lp:yJ (gNm 3) jc ((List.range 2).map fun (k:Nat)=>D.int (0+k)) [some (.val (.scr ns)),some (.obj 1 "Trail" (TG X dn un)),some (.val (.lst (X.map tx))),none]=.nx [some (.val (.scr ns)),some (.obj 1 "Trail" (TG X (dn++[s1]++[s2]) [])),some (.val (.lst (X.map tx))),some (.val (.int 1))]:=by
  show yJ (gNm 3) jc [.int 0,.int 1] _=_
  rw[JO vd b1,JO vd b2];rfl
 have hlen:(dn++[s1]++[s2]).length≤1000:=by simp;lia
 unfold xN vy
 rw[go_b,st,zL (by rw[xY,r2,Fl.of_ok];exact lp)]
 rw[jq (uQ (ZE (uh rfl) zA zA (US X (dn++[s1]++[s2]) [] hlen)) (wT (uh rfl) (Vg X _ _) zA (YR X _ _)))]
 rfl
noncomputable def TK(X:List (List Nat))(dn:List Stp)(k:Nat):Fs:=TG X (dn.take k) (dn.drop k).reverse
theorem UA(X:List (List Nat))(dn:List Stp):TK X dn dn.length=TG X dn []:=by unfold TK;rw[take_length,drop_length];rfl
theorem Jk(X:List (List Nat))(dn:List Stp)(k:Nat)(h:k<dn.length)(hd:dn.length≤1000):yf (TK X dn (k+1)) []=.ok (kdD dn[k],TK X dn k):=by
 have e1:dn.take (k+1)=dn.take k++[dn[k]]:=by rw[List.take_succ,getElem?_eq_getElem h];rfl
 have e2:(dn.drop k).reverse=(dn.drop (k+1)).reverse++[dn[k]]:=by rw[drop_eq_getElem_cons h,List.reverse_cons]
 unfold TK
 rw[e1,e2]
 exact LK X _ _ _ (by rw[List.length_reverse,length_drop];lia)
theorem VH(X:List (List Nat))(dn:List Stp)(k:Nat)(h:k<dn.length)(hd:dn.length≤1000):yo (TK X dn k) []=.ok (kdD dn[k],TK X dn (k+1)):=by
 have e1:dn.take (k+1)=dn.take k++[dn[k]]:=by rw[List.take_succ,getElem?_eq_getElem h];rfl
 have e2:(dn.drop k).reverse=(dn.drop (k+1)).reverse++[dn[k]]:=by rw[drop_eq_getElem_cons h,List.reverse_cons]
 unfold TK
 rw[e1,e2]
 exact MH X _ _ _ (by rw[length_take];lia)
theorem Q3(X:List (List Nat))(dn:List Stp)(k:Nat)(h:k≤dn.length):zG (TK X dn k) []=.ok (.tup [.int (k:Int),.int ((dn.length:Int)-k)]):=by
 unfold TK
 rw[YR,length_take,List.length_reverse,length_drop,Nat.min_eq_left h,show((dn.length-k:Nat):Int)=(dn.length:Int)-k by lia]
theorem Uz(X:List (List Nat))(dn:List Stp)(k:Nat)(hd:dn.length≤1000):zK (TK X dn k) []=.ok (uk (dn.take k)):=by
 unfold TK
 exact US X _ _ (by rw[length_take];lia)
noncomputable def rowsOf(dn:List Stp):List D:=(List.range (dn.length+1)).map fun i=>uk (dn.take i)
theorem Zf(dn:List Stp):(rowsOf dn).length=dn.length+1:=by simp[rowsOf]
theorem WV(dn:List Stp)(k:Nat)(h:k≤dn.length):ixD (.lst (rowsOf dn)) (.int (k:Int))=.ok (uk (dn.take k)):=by
 refine jy (jl (by lia) ?_)
 rw[Int.toNat_natCast]
 simp[rowsOf,List.getElem?_range (show k<dn.length+1 by lia)]
theorem Gg(dn:List Stp)(s:Stp):rowsOf (dn++[s])=rowsOf dn++[uk (dn++[s])]:=by
 unfold rowsOf
 rw[length_append,length_singleton,range_succ,map_append]
 congr 1
 ·refine List.map_congr_left fun i hi=>?_
  have:=mem_range.mp hi
  rw[List.take_append_of_le_length (by lia)]
 ·show [uk ((dn++[s]).take (dn.length+1))]=_
  rw[List.take_of_length_le (by simp)]
theorem VF(dn:List Stp)(k:Nat)(h:k<dn.length):ixD (.lst (dn.map kdD)) (.int (k:Int))=.ok (kdD dn[k]):=by
 refine jy (jl (by lia) ?_)
 rw[Int.toNat_natCast]
 simp[getElem?_eq_getElem h]
theorem YE{dn:List Stp}(h:∀s∈dn,okS s)(k:Nat):∀s∈dn.take k,okS s:=fun s hs=>h s (List.mem_of_mem_take hs)
theorem UU{dn:List Stp}(h:∀s∈dn,okS s):neD (uk dn) (uk dn)=.ok (.bl false):=UT (n:=3) (U4 h) (by decide)
theorem MO{dn:List Stp}(h:∀s∈dn,okS s):eqD (uk dn) (uk dn)=.ok (.bl true):=MN (n:=3) (U4 h) (by decide)
theorem L1(a b:Int):gd 1 (.tup [.int a,.int b]):=by
 intro e he
 rcases mem_cons.mp he with rfl|he
 ·exact trivial
 ·obtain rfl:=mem_singleton.mp he;exact trivial
theorem G5(a b:Int):neD (.tup [.int a,.int b]) (.tup [.int a,.int b])=.ok (.bl false):=UT (L1 a b) (by decide)
theorem eq_ii(a b:Int):eqD (.tup [.int a,.int b]) (.tup [.int a,.int b])=.ok (.bl true):=MN (L1 a b) (by decide)
theorem Vf{dn:List Stp}(u:Nat)(h:∀s∈dn,okS s):neD (yu dn u) (yu dn u)=.ok (.bl false):=UT (n:=4) (zg6 u h) (by decide)
noncomputable def gB1:FS:=(zu (ZQ (Xh (oB (oOp neD (xS 0 "Trail" "back" yf zg) (eOp ixD (ze 3) (ze 4)))) (ZV (FD.tB (eOp neD (wC 0 "Trail" zK zg zg) (eOp ixD (ze 1) (ze 4)))))) (xP (eC (.bl false))) zM)
  (sIf (FD.tB (eOp neD (yp 0 "Trail" "sizes" zG zg) (yz (za (ze 4) (za (eOp xw (ze 2) (ze 4)) zg))))) (xP (eC (.bl false))) zM))
noncomputable def gB2:FS:=(zu (ZQ (Xh (oB (oOp neD (xS 0 "Trail" "forth" yo zg) (eOp ixD (ze 3) (eOp xw (ze 4) (eC (.int 1)))))) (ZV (FD.tB (eOp neD (wC 0 "Trail" zK zg zg) (eOp ixD (ze 1) (ze 4)))))) (xP (eC (.bl false))) zM)
  (sIf (FD.tB (eOp neD (yp 0 "Trail" "sizes" zG zg) (yz (za (ze 4) (za (eOp xw (ze 2) (ze 4)) zg))))) (xP (eC (.bl false))) zM))
noncomputable def wdE:FE:=fun τ=>((wZ 1 [] (ja (yp 0 "Trail" "steps" yA zg)) (gNm 0) (fun _=>.ok true) (eOp ixD (ze 0) (eC (.int 0)))) τ).bind fun ds=>.ok (.lst ds)
theorem zg3:jj=(zu (yn 2 (eOp xw (yv yQ (za (ze 1) zg)) (eC (.int 1))))
  (zu (yn 3 wdE)
  (zu (wR (Vq (za (eOp xw (ze 2) (eC (.int 1))) (za (xh (eC (.int 1))) (za (xh (eC (.int 1))) zg)))) (gNm 4) gB1)
  (zu (wR (QH (za (eC (.int 1)) (za (eOp zQ (ze 2) (eC (.int 1))) zg))) (gNm 4) gB2)
  (xP (eC (.bl true))))))):=by unfold jj gB1 gB2 wdE;rfl
noncomputable def S5(X:List (List Nat))(dn:List Stp)(k:Nat)(t:Option Sl):DS:=[some (.obj 1 "Trail" (TK X dn k)),some (.val (.lst (rowsOf dn))),some (.val (.int (dn.length:Int))),some (.val (.lst (dn.map kdD))),t]
theorem LU(X:List (List Nat))(dn:List Stp)(k:Nat)(hk:k≤dn.length):(sIf (FD.tB (eOp neD (yp 0 "Trail" "sizes" zG zg) (yz (za (ze 4) (za (eOp xw (ze 2) (ze 4)) zg))))) (xP (eC (.bl false))) zM) (S5 X dn k (some (.val (.int (k:Int)))))=.nx (S5 X dn k (some (.val (.int (k:Int))))):=
 Wc (xO (op2 (wT (uh (n:=1) (fs:=TK X dn k) rfl) (Vg X _ _) zA (Q3 X dn k hk)) (uQ (zk rfl) (op2 (zk rfl) (zk rfl) wa)) (G5 _ _)))
theorem zg9(X:List (List Nat))(dn:List Stp)(k:Nat)(hk:k<dn.length)(hd:dn.length≤900)(hs:∀s∈dn,okS s):gB1 (S5 X dn (k+1) (some (.val (.int (k:Int)))))=.nx (S5 X dn k (some (.val (.int (k:Int))))):=by
 have m:xS 0 "Trail" "back" yf zg (S5 X dn (k+1) (some (.val (.int (k:Int)))))=.ok (kdD dn[k],S5 X dn k (some (.val (.int (k:Int))))):=
  vY (n:=1) (o:=TK X dn (k+1)) rfl (Mc X _ _) zA (Jk X dn k hk (by lia))
 have g:=JE (gb:=ZV (FD.tB (eOp neD (wC 0 "Trail" zK zg zg) (eOp ixD (ze 1) (ze 4))))) (b:=false) (τ'':=S5 X dn k (some (.val (.int (k:Int))))) (V7 (UR m (fb:=(eOp ixD (ze 3) (ze 4))) (op2 (zk rfl) (zk rfl) (VF dn k hk)) (G4 _)))
  (YD (xO (op2 (ZE (uh (n:=1) (fs:=TK X dn k) rfl) zA zA (Uz X dn k (by lia))) (op2 (zk rfl) (zk rfl) (WV dn k (by lia))) (UU (YE hs k)))))
 unfold gB1
 rw[zL (Um g)]
 exact LU X dn k (by lia)
theorem zg8(X:List (List Nat))(dn:List Stp)(k:Nat)(hk:k<dn.length)(hd:dn.length≤900)(hs:∀s∈dn,okS s):gB2 (S5 X dn k (some (.val (.int ((k+1:Nat):Int)))))=.nx (S5 X dn (k+1) (some (.val (.int ((k+1:Nat):Int))))):=by
 have m:xS 0 "Trail" "forth" yo zg (S5 X dn k (some (.val (.int ((k+1:Nat):Int)))))=.ok (kdD dn[k],S5 X dn (k+1) (some (.val (.int ((k+1:Nat):Int))))):=
  vY (n:=1) (o:=TK X dn k) rfl (JH X _ _) zA (VH X dn k hk (by lia))
 have w:ixD (.lst (dn.map kdD)) (.int (((k+1:Nat):Int)-1))=.ok (kdD dn[k]):=by
  rw[show((k+1:Nat):Int)-1=(k:Int) by lia];exact VF dn k hk
 have g:=JE (gb:=ZV (FD.tB (eOp neD (wC 0 "Trail" zK zg zg) (eOp ixD (ze 1) (ze 4))))) (b:=false) (τ'':=S5 X dn (k+1) (some (.val (.int ((k+1:Nat):Int))))) (V7 (UR m (fb:=(eOp ixD (ze 3) (eOp xw (ze 4) (eC (.int 1))))) (op2 (zk rfl) (op2 (zk rfl) rfl wa) w) (G4 _)))
  (YD (xO (op2 (ZE (uh (n:=1) (fs:=TK X dn (k+1)) rfl) zA zA (Uz X dn (k+1) (by lia))) (op2 (zk rfl) (zk rfl) (WV dn (k+1) (by lia))) (UU (YE hs (k+1))))))
 unfold gB2
 rw[zL (Um g)]
 exact LU X dn (k+1) (by lia)
theorem zb1{fa fb:FE}{τ:DS}{n:Nat}(h1:fa τ=.ok (.int 1))(h2:fb τ=.ok (.int (n:Int)))(hn:n≤1000):QH (za fa (za fb zg)) τ=.ok ((List.range (n-1)).map fun (k:Nat)=>D.int (((1:Nat):Int)+k)):=by
 have e:za fa (za fb zg) τ=.ok [.int 1,.int (n:Int)]:=by rw[zC,h1,Rs.bind_ok,j4 h2,Rs.bind_ok]
 unfold QH
 rw[e,Rs.bind_ok]
 show(if _ then Rs.ok (uR 1 ((n:Int)-1).toNat) else Rs.no)=_
 rw[if_pos (by lia)]
 have:((n:Int)-1).toNat=n-1:=by lia
 rw[this];rfl
theorem Lu(X:List (List Nat))(dn:List Stp)(hd:dn.length≤900)(hs:∀s∈dn,okS s):wl (TK X dn dn.length) [.lst (rowsOf dn)]=.ok (.bl true,TK X dn dn.length):=by
 have st:y8 (.obj 1 "Trail" (TK X dn dn.length)) 0 5 [.lst (rowsOf dn)]=[some (.obj 1 "Trail" (TK X dn dn.length)),some (.val (.lst (rowsOf dn))),none,none,none]:=rfl
 have e1:eOp xw (yv yQ (za (ze 1) zg)) (eC (.int 1)) [some (.obj 1 "Trail" (TK X dn dn.length)),some (.val (.lst (rowsOf dn))),none,none,none]=.ok (.int (dn.length:Int)):=by
  refine op2 (j0 (zk rfl) wU) rfl ?_
  rw[wa,Zf];congr 2;lia
 have e2:wdE [some (.obj 1 "Trail" (TK X dn dn.length)),some (.val (.lst (rowsOf dn))),some (.val (.int (dn.length:Int))),none,none]=.ok (.lst (dn.map kdD)):=by
  have cf:=jf (set:=gNm 0) (fe:=(eOp ixD (ze 0) (eC (.int 0)))) (τ:=[none]) stD kdD (fun s=>s) dn fun s _=>⟨[some (.val (stD s))],rfl,op2 (zk rfl) rfl (Tg s)⟩
  rw[List.map_id'] at cf
  have so:=VN X dn [] (by lia)
  rw[← UA] at so
  have it:ja (yp 0 "Trail" "steps" yA zg) [some (.obj 1 "Trail" (TK X dn dn.length)),some (.val (.lst (rowsOf dn))),some (.val (.int (dn.length:Int))),none,none]=.ok (dn.map stD):=by
   rw[YH,wT (uh (n:=1) (fs:=TK X dn dn.length) rfl) (JG X _ _) zA so];rfl
  have ec:=uC (k:=1) (idx:=[]) it cf (by rw[length_map];lia)
  unfold wdE
  show Rs.bind _ _=_
  rw[ec];rfl
 have r3:Vq (za (eOp xw (ze 2) (eC (.int 1))) (za (xh (eC (.int 1))) (za (xh (eC (.int 1))) zg))) (S5 X dn dn.length none)=.ok (Zg ((dn.length:Int)-1) dn.length):=by
  have:=Gj (fs:=(za (eOp xw (ze 2) (eC (.int 1))) (za (xh (eC (.int 1))) (za (xh (eC (.int 1))) zg)))) (τ:=S5 X dn dn.length none) (i:=(dn.length:Int)-1) (j:=-1)
   (by rw[zC,op2 (a:=.int (dn.length:Int)) (b:=.int 1) (zk rfl) rfl wa,Rs.bind_ok,QU (a:=.int (-1)) (b:=.int (-1)) rfl rfl,Rs.bind_ok]) (by lia) (by lia) (by lia) (by lia)
  rw[this];congr 2;lia
 refine byc fun zG=>?_
 obtain⟨τ1,l1,t1,rfl⟩:=wv (set:=gNm 4) (body:=gB1) (fun (k:Nat)=>D.int ((dn.length:Int)-1-k)) (fun k τ=>∃t,τ=S5 X dn (dn.length-k) t) dn.length (S5 X dn dn.length none) ⟨none,rfl⟩ fun k τ hk z_=>by
  obtain⟨t,e⟩:=z_
  subst e
  obtain⟨j,hj⟩:∃j,dn.length=j+1+k:=⟨dn.length-1-k,by lia⟩
  have e0:(dn.length:Int)-1-(k:Int)=(j:Int):=by lia
  have e1:dn.length-k=j+1:=by lia
  have e2:dn.length-(k+1)=j:=by lia
  rw[e0,e1,e2]
  exact⟨_,_,vd,zg9 X dn j (by lia) hd hs,_,rfl⟩
 rw[Nat.sub_self] at l1
 have r2:QH (za (eC (.int 1)) (za (eOp zQ (ze 2) (eC (.int 1))) zg)) (S5 X dn 0 t1)=.ok ((List.range dn.length).map fun (k:Nat)=>D.int (((1:Nat):Int)+k)):=by
  refine zb1 (n:=dn.length+1) rfl ?_ (by lia)
  exact(op2 (a:=.int (dn.length:Int)) (zk rfl) rfl yI).trans (by congr 2)
 obtain⟨τ2,l2,t2,rfl⟩:=wv (set:=gNm 4) (body:=gB2) (fun (k:Nat)=>D.int (((1:Nat):Int)+k)) (fun k τ=>∃t,τ=S5 X dn k t) dn.length (S5 X dn 0 t1) ⟨t1,rfl⟩ fun k τ hk z_=>by
  obtain⟨t,e⟩:=z_
  subst e
  rw[show((1:Nat):Int)+(k:Int)=((k+1:Nat):Int) by lia]
  exact⟨_,_,vd,zg8 X dn k hk hd hs,_,rfl⟩
 refine zG ?_
 unfold wl vy
 rw[zg3,st,zL (va e1)]
 show flM 0 "Trail" ((zu _ _) [some (.obj 1 "Trail" (TK X dn dn.length)),some (.val (.lst (rowsOf dn))),some (.val (.int (dn.length:Int))),none,none])=_
 rw[zL (va e2)]
 show flM 0 "Trail" ((zu _ _) (S5 X dn dn.length none))=_
 rw[zL (by rw[xY,r3,Fl.of_ok];exact l1),zL (by rw[xY,r2,Fl.of_ok];exact l2),jq (d:=.bl true) rfl]
 rfl
noncomputable abbrev vv(d:D):Option Sl:=some (.val d)
noncomputable abbrev T(o:Fs):Option Sl:=some (.obj 0 "Trail" o)
noncomputable def L12(ns:List Int)(X:List (List Nat))(a2 a3 a4 a5 a6 a7 a8 a9 a10 a11:Option Sl):DS:=[vv (.scr ns),vv (.lst (X.map tx)),a2,a3,a4,a5,a6,a7,a8,a9,a10,a11]
noncomputable def ZY(i:Nat):FE:=wC i "Trail" zK zg zg
noncomputable def szE(i:Nat):FE:=yp i "Trail" "sizes" zG zg
noncomputable def U1(i:Nat):FE:=yz (za (ZY i) (za (szE i) zg))
noncomputable def goE(i:Nat):FOb:=vW i "Trail" xN (za (ze 0) zg) (za (ze 1) zg)
noncomputable def bkE(i:Nat):FOb:=xS i "Trail" "back" yf zg
noncomputable def foE(i:Nat):FOb:=xS i "Trail" "forth" yo zg
noncomputable def lpB:FS:=(zu (xj (vW 2 "Trail" yP (za (ze 0) (za (eOp zQ (eC (.int 100)) (eOp vQ (eC (.int 50)) (ze 4))) zg)) (za (ze 1) zg)))
  (uW 3 (ZY 2)))
noncomputable def ifA:FS:=(ZQ (Xh (ZV (FD.tB (eOp neD (szE 2) (yz (za (ze 5) (za (eC (.int 0)) zg)))))) (V6 (oB (vW 2 "Trail" wl zg (za (ze 3) zg))))) (yx (eC (.bl false))) zM)
noncomputable def ifB:FS:=(sIf (FD.tB (eOp neD (ze 8) (yz (za (eOp ixD (ze 3) (eOp xw (ze 5) (ze 6))) (za (yz (za (eOp xw (ze 5) (ze 6)) (za (ze 6) zg))) zg))))) (yx (eC (.bl false))) zM)
noncomputable def ifC:FS:=(sIf (YO (FD.tB (eOp neD (eOp ixD (ze 11) (eC (.int 1))) (yz (za (eOp zQ (eOp xw (ze 5) (ze 6)) (eC (.int 2))) (za (eC (.int 0)) zg))))) (FD.tB (eOp neD (U1 9) (ze 8)))) (yx (eC (.bl false))) zM)
noncomputable def ifD:FS:=(ZQ (oB (oOp neD (goE 9) (ze 11))) (yx (eC (.bl false))) zM)
noncomputable def ifE:FS:=(sIf (FD.tB (eOp neD (U1 10) (ze 8))) (yx (eC (.bl false))) zM)
noncomputable def lpF:FS:=(ZQ (Xh (oB (Qv neD (bkE 9) (bkE 2))) (ZV (FD.tB (eOp neD (ZY 9) (ZY 2))))) (yx (eC (.bl false))) zM)
noncomputable def rtE:FS:=(yx (Jb (eOp eqD (ZY 10) (eOp ixD (ze 3) (xh (eC (.int 1))))) (Jb (eOp eqD (ZY 9) (yz (za (eC (.str "")) (za (vB zg) (za (vB zg) zg))))) (eOp eqD (szE 10) (yz (za (ze 5) (za (eC (.int 0)) zg)))))))
noncomputable def rest:FS:=(zu ifA
  (zu (yn 6 (eOp zQ (eC (.int 1)) (zv zq (za (ze 0) (za (eC (.int 98)) (za (ze 5) zg))))))
  (zu (wR (ww (za (ze 6) zg)) (gNm 7) (xj (bkE 2)))
  (zu (yn 8 (U1 2))
  (zu (Zc 9 2 "Trail" "twin" "Trail" yK)
  (zu (Zc 10 9 "Trail" "twin" "Trail" yK)
  (zu ifB
  (zu (Wn 11 (goE 2))
  (zu ifC
  (zu ifD
  (zu ifE
  (zu (wR (ww (za (ze 6) zg)) (gNm 7) (xj (foE 10)))
  (zu (wR (ww (za (eOp zQ (eOp xw (ze 5) (ze 6)) (eC (.int 2))) zg)) (gNm 7) lpF)
  rtE)))))))))))))
theorem law_b:M1=(zu (yn 1 (zv xl (za (ze 0) (za (eC (.int 0)) (za (eC (.int 4)) zg)))))
  (zu (Zd 2 "Trail" ya (za (ze 1) zg))
  (zu (wQ 3 (fun τ=>((za (ZY 2) zg) τ).bind fun ds=>if ds.length≤sizeLine then .ok ds else .no))
  (zu (wR (ww (za (eOp zQ (eC (.int 2)) (zv zq (za (ze 0) (za (eC (.int 99)) (za (eC (.int 6)) zg))))) zg)) (gNm 4) lpB)
  (zu (yn 5 (eOp xw (uO 3) (eC (.int 1))))
  (fun τ=>rest (Z4 τ))))))):=by unfold M1 rest rtE lpF ifE ifD ifC ifB ifA lpB foE bkE goE U1 szE ZY;rfl
section
variable(ns:List Int)(X:List (List Nat))
theorem jw{τ:DS}{i:Nat}{dn:List Stp}{k:Nat}(h:τ[i]?=some (T (TK X dn k)))(hd:dn.length≤1000):ZY i τ=.ok (uk (dn.take k)):=ZE (uh h) zA zA (Uz X dn k hd)
theorem UC{τ:DS}{i:Nat}{dn:List Stp}{k:Nat}(h:τ[i]?=some (T (TK X dn k))):szE i τ=.ok (.tup [.int ((dn.take k).length:Int),.int ((dn.drop k).reverse.length:Int)]):=wT (uh h) (Vg X _ _) zA (YR X _ _)
theorem Lr{τ:DS}{i:Nat}{dn:List Stp}{k:Nat}(h:τ[i]?=some (T (TK X dn k)))(hd:dn.length≤1000):U1 i τ=.ok (yu (dn.take k) (dn.drop k).reverse.length):=uQ (jw X h hd) (UC X h)
theorem Je{τ:DS}{i:Nat}{dn:List Stp}{k:Nat}(h:τ[i]?=some (T (TK X dn (k+1))))(hk:k<dn.length)(hd:dn.length≤1000):bkE i τ=.ok (kdD dn[k],τ.set i (T (TK X dn k))):=vY h (Mc X _ _) zA (Jk X dn k hk hd)
theorem zh0{τ:DS}{i:Nat}{dn:List Stp}{k:Nat}(h:τ[i]?=some (T (TK X dn k)))(hk:k<dn.length)(hd:dn.length≤1000):foE i τ=.ok (kdD dn[k],τ.set i (T (TK X dn (k+1)))):=vY h (JH X _ _) zA (VH X dn k hk hd)
theorem Mp(dn:List Stp):ixD (.lst (rowsOf dn)) (.int (-1))=.ok (uk dn):=by
 have e:rowsOf dn=((List.range dn.length).map fun i=>uk (dn.take i))++[uk dn]:=by
  unfold rowsOf
  rw[range_succ,map_append]
  show _++[uk (dn.take dn.length)]=_
  rw[take_length]
 have hl:=Zf dn
 refine jy ?_
 unfold atI ixN
 rw[if_neg (by lia),if_pos (by lia)]
 have:(-1+((rowsOf dn).length:Int)).toNat=dn.length:=by lia
 show(rowsOf dn)[(-1+((rowsOf dn).length:Int)).toNat]?=_
 rw[this,e]
 simp
theorem Tz(dn:List Stp)(t4:Option Sl)(h63:ns.length≤63)(hX:∀x∈X,VC x)(hl:X.length<64)(hn:0<dn.length)(hd:dn.length≤800)(hs:∀s∈dn,okS s) :
  rest (L12 ns X (T (TG X dn [])) (vv (.lst (rowsOf dn))) t4 (vv (.int (dn.length:Int))) none none none none none none)=.rt (.bl true):=by
 unfold rest
 rw[← UA]
 have h1:ifA (L12 ns X (T (TK X dn dn.length)) (vv (.lst (rowsOf dn))) t4 (vv (.int (dn.length:Int))) none none none none none none)=.nx (L12 ns X (T (TK X dn dn.length)) (vv (.lst (rowsOf dn))) t4 (vv (.int (dn.length:Int))) none none none none none none):=by
  have e1:FD.tB (eOp neD (szE 2) (yz (za (ze 5) (za (eC (.int 0)) zg)))) (L12 ns X (T (TK X dn dn.length)) (vv (.lst (rowsOf dn))) t4 (vv (.int (dn.length:Int))) none none none none none none)=.ok false:=by
   refine xO (op2 (UC X (dn:=dn) (k:=dn.length) rfl) (uQ (zk rfl) rfl) ?_)
   rw[take_length,drop_length]
   exact G5 _ _
  have e2:vW 2 "Trail" wl zg (za (ze 3) zg) (L12 ns X (T (TK X dn dn.length)) (vv (.lst (rowsOf dn))) t4 (vv (.int (dn.length:Int))) none none none none none none)=.ok (.bl true,L12 ns X (T (TK X dn dn.length)) (vv (.lst (rowsOf dn))) t4 (vv (.int (dn.length:Int))) none none none none none none):=
   jB (n:=0) (o:=TK X dn dn.length) rfl zA (j4 (zk rfl)) (Lu X dn (by lia) hs)
  exact Um (JE (YD e1) (La (V7 e2)))
 rw[zL h1]
 have dl:=wF ns 98 (m:=(dn.length:Int)) (by lia)
 have dk:=wx ns 98 (dn.length:Int) h63 (by decide) (by decide) (by lia)
 generalize x8 ns 98 (dn.length:Int)=M at dl dk
 obtain⟨b,hb⟩:∃b:Nat,(b:Int)=1+M:=⟨(1+M).toNat,by lia⟩
 have hb1:1≤b:=by lia
 have hb2:b≤dn.length:=by lia
 obtain⟨m,hm⟩:∃m,dn.length=m+b:=⟨dn.length-b,by lia⟩
 have h2:yn 6 (eOp zQ (eC (.int 1)) (zv zq (za (ze 0) (za (eC (.int 98)) (za (ze 5) zg))))) (L12 ns X (T (TK X dn dn.length)) (vv (.lst (rowsOf dn))) t4 (vv (.int (dn.length:Int))) none none none none none none)=.nx (L12 ns X (T (TK X dn dn.length)) (vv (.lst (rowsOf dn))) t4 (vv (.int (dn.length:Int))) (vv (.int (b:Int))) none none none none none):=by
  rw[va (op2 (a:=.int 1) rfl (vp (zk rfl) rfl (zk rfl) dk) yI),← hb];rfl
 rw[zL h2]
 have r3:∀a2 a7 a8 a9 a10 a11,ww (za (ze 6) zg) (L12 ns X a2 (vv (.lst (rowsOf dn))) t4 (vv (.int (dn.length:Int))) (vv (.int (b:Int))) a7 a8 a9 a10 a11)=.ok ((List.range b).map fun (k:Nat)=>D.int (0+k)):=fun _ _ _ _ _ _=>uX (zk rfl) (by lia)
 refine byc fun zG=>?_
 obtain⟨τ3,l3,t7,rfl⟩:=wv (set:=gNm 7) (body:=xj (bkE 2)) (fun (k:Nat)=>D.int (0+k)) (fun k τ=>∃t,τ=L12 ns X (T (TK X dn (dn.length-k))) (vv (.lst (rowsOf dn))) t4 (vv (.int (dn.length:Int))) (vv (.int (b:Int))) t none none none none) b
  (L12 ns X (T (TK X dn dn.length)) (vv (.lst (rowsOf dn))) t4 (vv (.int (dn.length:Int))) (vv (.int (b:Int))) none none none none none) ⟨none,rfl⟩ fun k τ hk z_=>by
   obtain⟨t,e⟩:=z_
   subst e
   obtain⟨j,hj⟩:∃j,dn.length-k=j+1:=⟨dn.length-k-1,by lia⟩
   rw[hj,show dn.length-(k+1)=j by lia]
   exact⟨_,_,vd,wX (Je X (dn:=dn) (k:=j) rfl (by lia) (by lia)),_,rfl⟩
 refine zG ?_
 rw[show dn.length-b=m by lia] at l3
 rw[zL (by rw[xY,r3,Fl.of_ok];exact l3)]
 have hlm:(dn.take m).length=m:=by rw[length_take];lia
 have hlu:(dn.drop m).reverse.length=b:=by rw[List.length_reverse,length_drop];lia
 have hst:∀s∈dn.take m,okS s:=YE hs m
 have her:∀{τ:DS} {i:Nat},τ[i]?=some (T (TK X dn m))→U1 i τ=.ok (yu (dn.take m) b):=fun h=>by
  have:=Lr X h (by lia)
  rw[hlu] at this;exact this
 have h4:yn 8 (U1 2) (L12 ns X (T (TK X dn m)) (vv (.lst (rowsOf dn))) t4 (vv (.int (dn.length:Int))) (vv (.int (b:Int))) t7 none none none none)=.nx (L12 ns X (T (TK X dn m)) (vv (.lst (rowsOf dn))) t4 (vv (.int (dn.length:Int))) (vv (.int (b:Int))) t7 (vv (yu (dn.take m) b)) none none none):=va (her rfl)
 rw[zL h4]
 have h5:Zc 9 2 "Trail" "twin" "Trail" yK (L12 ns X (T (TK X dn m)) (vv (.lst (rowsOf dn))) t4 (vv (.int (dn.length:Int))) (vv (.int (b:Int))) t7 (vv (yu (dn.take m) b)) none none none)=.nx (L12 ns X (T (TK X dn m)) (vv (.lst (rowsOf dn))) t4 (vv (.int (dn.length:Int))) (vv (.int (b:Int))) t7 (vv (yu (dn.take m) b)) (T (TK X dn m)) none none):=
  Jj (o:=TK X dn m) (uh (n:=0) rfl) (G9 X _ _) (Ji X _ _)
 have h6:Zc 10 9 "Trail" "twin" "Trail" yK (L12 ns X (T (TK X dn m)) (vv (.lst (rowsOf dn))) t4 (vv (.int (dn.length:Int))) (vv (.int (b:Int))) t7 (vv (yu (dn.take m) b)) (T (TK X dn m)) none none)=.nx (L12 ns X (T (TK X dn m)) (vv (.lst (rowsOf dn))) t4 (vv (.int (dn.length:Int))) (vv (.int (b:Int))) t7 (vv (yu (dn.take m) b)) (T (TK X dn m)) (T (TK X dn m)) none):=
  Jj (o:=TK X dn m) (uh (n:=0) rfl) (G9 X _ _) (Ji X _ _)
 rw[zL h5,zL h6]
 have hmi:(dn.length:Int)-(b:Int)=(m:Int):=by lia
 have h7:ifB (L12 ns X (T (TK X dn m)) (vv (.lst (rowsOf dn))) t4 (vv (.int (dn.length:Int))) (vv (.int (b:Int))) t7 (vv (yu (dn.take m) b)) (T (TK X dn m)) (T (TK X dn m)) none)=.nx (L12 ns X (T (TK X dn m)) (vv (.lst (rowsOf dn))) t4 (vv (.int (dn.length:Int))) (vv (.int (b:Int))) t7 (vv (yu (dn.take m) b)) (T (TK X dn m)) (T (TK X dn m)) none):=by
  have sb:eOp xw (ze 5) (ze 6) (L12 ns X (T (TK X dn m)) (vv (.lst (rowsOf dn))) t4 (vv (.int (dn.length:Int))) (vv (.int (b:Int))) t7 (vv (yu (dn.take m) b)) (T (TK X dn m)) (T (TK X dn m)) none)=.ok (.int (m:Int)):=by
   rw[op2 (a:=.int (dn.length:Int)) (b:=.int (b:Int)) (zk rfl) (zk rfl) wa,hmi]
  refine Wc (xO (op2 (zk rfl) (uQ (op2 (zk rfl) sb (WV dn m (by lia))) (uQ sb (zk rfl))) ?_))
  have:=Vf b hst
  unfold yu at this ⊢
  rw[hlm] at this ⊢
  exact this
 rw[zL h7]
 refine byc fun zG=>?_
 obtain⟨s1,s2,o1,o2,hg⟩:=go_ok ns X (dn.take m) h63 hX hl (by rw[hlm];lia) hst
 refine zG ?_
 generalize hE:dn.take m++[s1]++[s2]=E at hg
 have hEl:E.length=m+2:=by rw[← hE];simp;lia
 have hEs:∀s∈E,okS s:=fun s h=>by
  rw[← hE] at h
  rcases mem_append.mp h with h|h
  ·rcases mem_append.mp h with h|h
   ·exact hst s h
   ·obtain rfl:=mem_singleton.mp h;exact o1
  ·obtain rfl:=mem_singleton.mp h;exact o2
 have hEk:TG X E []=TK X E (m+2):=by rw[← hEl,UA]
 rw[hEk] at hg
 have h8:Wn 11 (goE 2) (L12 ns X (T (TK X dn m)) (vv (.lst (rowsOf dn))) t4 (vv (.int (dn.length:Int))) (vv (.int (b:Int))) t7 (vv (yu (dn.take m) b)) (T (TK X dn m)) (T (TK X dn m)) none)=.nx (L12 ns X (T (TK X E (m+2))) (vv (.lst (rowsOf dn))) t4 (vv (.int (dn.length:Int))) (vv (.int (b:Int))) t7 (vv (yu (dn.take m) b)) (T (TK X dn m)) (T (TK X dn m)) (vv (yu E 0))):=
  Tr (jB (n:=0) (o:=TK X dn m) rfl (j4 (zk rfl)) (j4 (zk rfl)) (hg _))
 rw[zL h8]
 have h9:ifC (L12 ns X (T (TK X E (m+2))) (vv (.lst (rowsOf dn))) t4 (vv (.int (dn.length:Int))) (vv (.int (b:Int))) t7 (vv (yu (dn.take m) b)) (T (TK X dn m)) (T (TK X dn m)) (vv (yu E 0)))=.nx (L12 ns X (T (TK X E (m+2))) (vv (.lst (rowsOf dn))) t4 (vv (.int (dn.length:Int))) (vv (.int (b:Int))) t7 (vv (yu (dn.take m) b)) (T (TK X dn m)) (T (TK X dn m)) (vv (yu E 0))):=by
  have ix:ixD (yu E 0) (.int 1)=.ok (.tup [.int (E.length:Int),.int 0]):=rfl
  refine Wc (LX (xO (op2 (op2 (zk rfl) rfl ix) (uQ (op2 (op2 (zk rfl) (zk rfl) wa) rfl yI) rfl) ?_)) (xO (op2 (her rfl) (zk rfl) (Vf b hst))))
  rw[hmi,hEl,show((m+2:Nat):Int)=(m:Int)+2 by lia]
  exact G5 _ _
 rw[zL h9]
 have h10:ifD (L12 ns X (T (TK X E (m+2))) (vv (.lst (rowsOf dn))) t4 (vv (.int (dn.length:Int))) (vv (.int (b:Int))) t7 (vv (yu (dn.take m) b)) (T (TK X dn m)) (T (TK X dn m)) (vv (yu E 0)))=.nx (L12 ns X (T (TK X E (m+2))) (vv (.lst (rowsOf dn))) t4 (vv (.int (dn.length:Int))) (vv (.int (b:Int))) t7 (vv (yu (dn.take m) b)) (T (TK X E (m+2))) (T (TK X dn m)) (vv (yu E 0))):=by
  have g:goE 9 (L12 ns X (T (TK X E (m+2))) (vv (.lst (rowsOf dn))) t4 (vv (.int (dn.length:Int))) (vv (.int (b:Int))) t7 (vv (yu (dn.take m) b)) (T (TK X dn m)) (T (TK X dn m)) (vv (yu E 0)))=.ok (yu E 0,L12 ns X (T (TK X E (m+2))) (vv (.lst (rowsOf dn))) t4 (vv (.int (dn.length:Int))) (vv (.int (b:Int))) t7 (vv (yu (dn.take m) b)) (T (TK X E (m+2))) (T (TK X dn m)) (vv (yu E 0))):=
   jB (n:=0) (o:=TK X dn m) rfl (j4 (zk rfl)) (j4 (zk rfl)) (hg _)
  exact Um (V7 (UR g (zk rfl) (Vf 0 hEs)))
 rw[zL h10]
 have h11:ifE (L12 ns X (T (TK X E (m+2))) (vv (.lst (rowsOf dn))) t4 (vv (.int (dn.length:Int))) (vv (.int (b:Int))) t7 (vv (yu (dn.take m) b)) (T (TK X E (m+2))) (T (TK X dn m)) (vv (yu E 0)))=.nx (L12 ns X (T (TK X E (m+2))) (vv (.lst (rowsOf dn))) t4 (vv (.int (dn.length:Int))) (vv (.int (b:Int))) t7 (vv (yu (dn.take m) b)) (T (TK X E (m+2))) (T (TK X dn m)) (vv (yu E 0))):=
  Wc (xO (op2 (her rfl) (zk rfl) (Vf b hst)))
 rw[zL h11]
 refine byc fun zG=>?_
 obtain⟨τ4,l4,t8,rfl⟩:=wv (set:=gNm 7) (body:=xj (foE 10)) (fun (k:Nat)=>D.int (0+k)) (fun k τ=>∃t,τ=L12 ns X (T (TK X E (m+2))) (vv (.lst (rowsOf dn))) t4 (vv (.int (dn.length:Int))) (vv (.int (b:Int))) t (vv (yu (dn.take m) b)) (T (TK X E (m+2))) (T (TK X dn (m+k))) (vv (yu E 0))) b
  (L12 ns X (T (TK X E (m+2))) (vv (.lst (rowsOf dn))) t4 (vv (.int (dn.length:Int))) (vv (.int (b:Int))) t7 (vv (yu (dn.take m) b)) (T (TK X E (m+2))) (T (TK X dn m)) (vv (yu E 0))) ⟨t7,rfl⟩ fun k τ hk z_=>by
   obtain⟨t,e⟩:=z_
   subst e
   exact⟨_,_,vd,wX (zh0 X (dn:=dn) (k:=m+k) rfl (by lia) (by lia)),_,rfl⟩
 refine zG ?_
 rw[zL (by rw[xY,r3,Fl.of_ok];exact l4)]
 have r5:ww (za (eOp zQ (eOp xw (ze 5) (ze 6)) (eC (.int 2))) zg) (L12 ns X (T (TK X E (m+2))) (vv (.lst (rowsOf dn))) t4 (vv (.int (dn.length:Int))) (vv (.int (b:Int))) t8 (vv (yu (dn.take m) b)) (T (TK X E (m+2))) (T (TK X dn (m+b))) (vv (yu E 0)))=.ok ((List.range (m+2)).map fun (k:Nat)=>D.int (0+k)):=by
  refine uX ?_ (by lia)
  rw[op2 (a:=.int ((dn.length:Int)-b)) (b:=.int 2) (op2 (zk rfl) (zk rfl) wa) rfl yI,hmi];rfl
 refine byc fun zG=>?_
 obtain⟨τ5,l5,t9,rfl⟩:=wv (set:=gNm 7) (body:=lpF) (fun (k:Nat)=>D.int (0+k)) (fun k τ=>∃t,τ=L12 ns X (T (TK X E (m+2-k))) (vv (.lst (rowsOf dn))) t4 (vv (.int (dn.length:Int))) (vv (.int (b:Int))) t (vv (yu (dn.take m) b)) (T (TK X E (m+2-k))) (T (TK X dn (m+b))) (vv (yu E 0))) (m+2)
  (L12 ns X (T (TK X E (m+2))) (vv (.lst (rowsOf dn))) t4 (vv (.int (dn.length:Int))) (vv (.int (b:Int))) t8 (vv (yu (dn.take m) b)) (T (TK X E (m+2))) (T (TK X dn (m+b))) (vv (yu E 0))) ⟨t8,rfl⟩ fun k τ hk z_=>by
   obtain⟨t,e⟩:=z_
   subst e
   obtain⟨j,hj⟩:∃j,m+2-k=j+1:=⟨m+2-k-1,by lia⟩
   rw[hj,show m+2-(k+1)=j by lia]
   have hjE:j<E.length:=by lia
   generalize hv:vv (.int (0+(k:Int)))=v
   have g1:bkE 9 (L12 ns X (T (TK X E (j+1))) (vv (.lst (rowsOf dn))) t4 (vv (.int (dn.length:Int))) (vv (.int (b:Int))) v (vv (yu (dn.take m) b)) (T (TK X E (j+1))) (T (TK X dn (m+b))) (vv (yu E 0)))=.ok (kdD E[j],L12 ns X (T (TK X E (j+1))) (vv (.lst (rowsOf dn))) t4 (vv (.int (dn.length:Int))) (vv (.int (b:Int))) v (vv (yu (dn.take m) b)) (T (TK X E j)) (T (TK X dn (m+b))) (vv (yu E 0))):=
    Je X (dn:=E) (k:=j) rfl hjE (by lia)
   have g2:bkE 2 (L12 ns X (T (TK X E (j+1))) (vv (.lst (rowsOf dn))) t4 (vv (.int (dn.length:Int))) (vv (.int (b:Int))) v (vv (yu (dn.take m) b)) (T (TK X E j)) (T (TK X dn (m+b))) (vv (yu E 0)))=.ok (kdD E[j],L12 ns X (T (TK X E j)) (vv (.lst (rowsOf dn))) t4 (vv (.int (dn.length:Int))) (vv (.int (b:Int))) v (vv (yu (dn.take m) b)) (T (TK X E j)) (T (TK X dn (m+b))) (vv (yu E 0))):=
    Je X (dn:=E) (k:=j) rfl hjE (by lia)
   refine⟨L12 ns X (T (TK X E (j+1))) (vv (.lst (rowsOf dn))) t4 (vv (.int (dn.length:Int))) (vv (.int (b:Int))) v (vv (yu (dn.take m) b)) (T (TK X E (j+1))) (T (TK X dn (m+b))) (vv (yu E 0)),_,by rw[← hv];rfl,Um (JE (V7 (T9 g1 g2 (G4 _))) (YD (xO (op2 (jw X (dn:=E) (k:=j) rfl (by lia)) (jw X (dn:=E) (k:=j) rfl (by lia)) (UU (YE hEs j)))))),_,rfl⟩
 refine zG ?_
 rw[Nat.sub_self] at l5
 rw[zL (by rw[xY,r5,Fl.of_ok];exact l5)]
 have f1:eOp eqD (ZY 10) (eOp ixD (ze 3) (xh (eC (.int 1)))) (L12 ns X (T (TK X E 0)) (vv (.lst (rowsOf dn))) t4 (vv (.int (dn.length:Int))) (vv (.int (b:Int))) t9 (vv (yu (dn.take m) b)) (T (TK X E 0)) (T (TK X dn (m+b))) (vv (yu E 0)))=.ok (.bl true):=by
  refine op2 (jw X (dn:=dn) (k:=m+b) rfl (by lia)) (op2 (b:=.int (-1)) (zk rfl) rfl (Mp dn)) ?_
  rw[← hm,take_length]
  exact MO hs
 have f2:eOp eqD (ZY 9) (yz (za (eC (.str "")) (za (vB zg) (za (vB zg) zg)))) (L12 ns X (T (TK X E 0)) (vv (.lst (rowsOf dn))) t4 (vv (.int (dn.length:Int))) (vv (.int (b:Int))) t9 (vv (yu (dn.take m) b)) (T (TK X E 0)) (T (TK X dn (m+b))) (vv (yu E 0)))=.ok (.bl true):=by
  refine op2 (jw X (dn:=E) (k:=0) rfl (by lia)) (za4 rfl Lb Lb) ?_
  exact MO (dn:=[]) (by simp)
 have f3:eOp eqD (szE 10) (yz (za (ze 5) (za (eC (.int 0)) zg))) (L12 ns X (T (TK X E 0)) (vv (.lst (rowsOf dn))) t4 (vv (.int (dn.length:Int))) (vv (.int (b:Int))) t9 (vv (yu (dn.take m) b)) (T (TK X E 0)) (T (TK X dn (m+b))) (vv (yu E 0)))=.ok (.bl true):=by
  refine op2 (UC X (dn:=dn) (k:=m+b) rfl) (uQ (zk rfl) rfl) ?_
  rw[← hm,take_length,drop_length]
  exact eq_ii _ _
 unfold rtE
 rw[uY (d:=.bl true) (by rw[Vt,f1,Rs.bind_ok,vq,Rs.bind_ok,if_pos rfl,Vt,f2,Rs.bind_ok,vq,Rs.bind_ok,if_pos rfl,f3])]
end
theorem main(ns:List Int)(h63:ns.length≤63):JK [.scr ns]=.ok (.bl true):=by
 refine byc fun zG=>?_
 obtain⟨X,x1,x2,x3⟩:=G6 ns 0 4 h63 (by decide) (by decide) (by decide) (by decide)
 refine zG ?_
 have hl:X.length<64:=by lia
 have st:yc 12 [.scr ns]=[vv (.scr ns),none,none,none,none,none,none,none,none,none,none,none]:=rfl
 have h1:yn 1 (zv xl (za (ze 0) (za (eC (.int 0)) (za (eC (.int 4)) zg)))) [vv (.scr ns),none,none,none,none,none,none,none,none,none,none,none]=.nx (L12 ns X none none none none none none none none none none):=
  va (vp (zk rfl) rfl rfl x1)
 have h2:Zd 2 "Trail" ya (za (ze 1) zg) (L12 ns X none none none none none none none none none none)=.nx (L12 ns X (T (TG X [] [])) none none none none none none none none none):=
  JJ (j4 (zk rfl)) (JV X)
 have h3:wQ 3 (fun τ=>((za (ZY 2) zg) τ).bind fun ds=>if ds.length≤sizeLine then .ok ds else .no) (L12 ns X (T (TG X [] [])) none none none none none none none none none)=.nx (L12 ns X (T (TG X [] [])) (some (.own (rowsOf []))) none none none none none none none none):=by
  refine Jt (ds:=[uk []]) ?_
  show Rs.bind _ _=_
  rw[j4 (a:=uk []) (jw X (dn:=[]) (k:=0) rfl (by simp)),Rs.bind_ok]
  exact if_pos (size1 _)
 have dl:=wF ns 99 (m:=6) (by decide)
 have dk:=wx ns 99 6 h63 (by decide) (by decide) (by decide)
 generalize x8 ns 99 6=M at dl dk
 refine byc fun zG=>?_
 obtain⟨n,hn⟩:∃n:Nat,(n:Int)=2+M:=⟨(2+M).toNat,by lia⟩
 have r4:ww (za (eOp zQ (eC (.int 2)) (zv zq (za (ze 0) (za (eC (.int 99)) (za (eC (.int 6)) zg))))) zg) (L12 ns X (T (TG X [] [])) (some (.own (rowsOf []))) none none none none none none none none)=.ok ((List.range n).map fun (k:Nat)=>D.int (0+k)):=by
  refine uX ?_ (by lia)
  rw[op2 (a:=.int 2) rfl (vp (zk rfl) rfl rfl dk) yI,hn]
 obtain⟨τ4,l4,dn,t4,d1,d2,rfl⟩:=wv (set:=gNm 4) (body:=lpB) (fun (k:Nat)=>D.int (0+k)) (fun k τ=>∃dn t,dn.length=k∧(∀s∈dn,okS s)∧τ=L12 ns X (T (TG X dn [])) (some (.own (rowsOf dn))) t none none none none none none none) n
  (L12 ns X (T (TG X [] [])) (some (.own (rowsOf []))) none none none none none none none none) ⟨[],none,rfl,by simp,rfl⟩ fun k τ hk z_=>by
   obtain⟨dn,t,d1,d2,e⟩:=z_
   subst e
   obtain⟨s,o,hs⟩:=Xo ns X (100+50*(0+(k:Int))) dn h63 (by lia) (by lia) x3 hl (by lia) d2
   generalize hv:vv (.int (0+(k:Int)))=v
   have b1:xj (vW 2 "Trail" yP (za (ze 0) (za (eOp zQ (eC (.int 100)) (eOp vQ (eC (.int 50)) (ze 4))) zg)) (za (ze 1) zg)) (L12 ns X (T (TG X dn [])) (some (.own (rowsOf dn))) v none none none none none none none)=.nx (L12 ns X (T (TG X (dn++[s]) [])) (some (.own (rowsOf dn))) v none none none none none none none):=by
    rw[← hv]
    exact wX (jB (n:=0) (o:=TG X dn []) rfl (QU (zk rfl) (op2 rfl (op2 rfl (zk rfl) (vK (by lia))) yI)) (j4 (zk rfl)) (hs []))
   have b2:uW 3 (ZY 2) (L12 ns X (T (TG X (dn++[s]) [])) (some (.own (rowsOf dn))) v none none none none none none none)=.nx (L12 ns X (T (TG X (dn++[s]) [])) (some (.own (rowsOf (dn++[s])))) v none none none none none none none):=by
    rw[Gg]
    refine M4 (ds:=rowsOf dn) (d:=uk (dn++[s])) rfl ?_ (by rw[Zf];lia)
    exact ZE (uh (n:=0) (fs:=TG X (dn++[s]) []) rfl) zA zA (US X _ _ (by simp;lia))
   refine⟨L12 ns X (T (TG X dn [])) (some (.own (rowsOf dn))) v none none none none none none none,_,by rw[← hv];rfl,by unfold lpB;rw[zL b1];exact b2,dn++[s],v,by simp[d1],fun s' h=>?_,rfl⟩
   rcases mem_append.mp h with h|h
   ·exact d2 s' h
   ·obtain rfl:=mem_singleton.mp h;exact o
 have h5:yn 5 (eOp xw (uO 3) (eC (.int 1))) (L12 ns X (T (TG X dn [])) (some (.own (rowsOf dn))) t4 none none none none none none none)=.nx (L12 ns X (T (TG X dn [])) (some (.own (rowsOf dn))) t4 (vv (.int (dn.length:Int))) none none none none none none):=by
  refine va (op2 (a:=.int ((rowsOf dn).length:Int)) (b:=.int 1) rfl rfl ?_)
  rw[wa,Zf];congr 2;lia
 have hf:∀t,∃t',Z4 (L12 ns X (T (TG X dn [])) (some (.own (rowsOf dn))) t (vv (.int (dn.length:Int))) none none none none none none)=L12 ns X (T (TG X dn [])) (vv (.lst (rowsOf dn))) t' (vv (.int (dn.length:Int))) none none none none none none:=fun t=>⟨_,rfl⟩
 obtain⟨t',hf⟩:=hf t4
 refine zG ?_
 unfold JK
 rw[yj,st,law_b,zL h1,zL h2,zL h3,zL (by rw[xY,r4,Fl.of_ok];exact l4),zL h5]
 show WD (rest (Z4 _))=_
 rw[hf,Tz ns X dn t' h63 x3 hl (by lia) (by lia) d2]
 rfl
set_option maxHeartbeats 4000000
noncomputable def top(i:Nat):Stmt:=PySem.Challenge.pw_fewfind_k94_whole_back_and_twins.main.body.getD i (.Pass ⟨0,0,0,0⟩)
section
variable{P:Program}{w:World}{K:Frag}{mg:Str→Option Value}{base:Heap}
noncomputable abbrev wf:Stmt:=top 40
theorem WR:zD ["_law_script", "_law_k"] ["_law_script", "_law_k"] (zi wf):=⟨rfl,rfl,rfl,by decide +kernel,rfl,by decide +kernel,by decide +kernel⟩
theorem Va{f:Addr}{fd:FuncData}(A_:zV K mg "_law_cell" wf f fd)(z_len:mg "len" = none):DefOk P w K mg base "_law_cell" 1 2 ["_law_script", "_law_k"] wL:=by
 refine DefOk.mk (k:=0) A_ WR rfl (fun _ _ _ _ _ _ us hl=>by obtain⟨_,_,rfl⟩:=lnz2 hl;rfl) (fun cdv A outer s H E hr=>?_) fun _ _ _ h=>h
 exact(zn (yW (zN (xI hr.units) (zc (pv 0)) (vT zj) (zT _)) (zo (zO (zx wD zm (zc (pv 1))))) zS) (zo (zO (zx zH (zP ye (zc (pv 0)) (zx jt (zc (pv 1)) (zU xv rfl z_len PySem.boot_len (zb (zc (pv 0)) zj)))) (zx wD zm (zx Zu (zc (pv 1)) (zU xv rfl z_len PySem.boot_len (zb (zc (pv 0)) zj))))))))
noncomputable abbrev xG:Stmt:=top 41
theorem sc__law_drawn:zD ["_law_script", "_law_k", "_law_many", "_law_cell_here"] ["_law_script", "_law_k", "_law_many"] (zi xG):=⟨rfl,rfl,rfl,by decide +kernel,rfl,by decide +kernel,by decide +kernel⟩
theorem X4{f:Addr}{fd:FuncData}(A_:zV K mg "_law_drawn" xG f fd)(h__law_cell:DefOk P w K mg base "_law_cell" 1 2 ["_law_script", "_law_k"] wL):DefOk P w K mg base "_law_drawn" 2 3 ["_law_script", "_law_k", "_law_many"] zq:=by
 refine DefOk.mk (k:=1) A_ sc__law_drawn rfl (fun _ _ _ _ _ _ us hl=>by obtain⟨_,_,_,rfl⟩:=lnz3 hl;rfl) (fun cdv A outer s H E hr=>?_) fun _ _ _ h=>h
 exact(zn (z9 (i:=3) sc__law_drawn.nd rfl (Or.inl rfl) (zx jt (zx zH (zx wD (zx jt (zI h__law_cell (hr.mono (by decide)) (zb (zc (pv 0)) (zb (zc (pv 1)) zj)) (zh (zh zp))) zm) zm) (zx wD zm (zx zH (zc (pv 1)) zm))) zm)) (zn (z9 (i:=3) sc__law_drawn.nd rfl (Or.inl rfl) (zx jt (zx zH (zx wD (zc (pv 3)) (zc (pv 3))) (zx Zu (zc (pv 3)) zm)) zm)) (zo (zO (zx jt (zx Zu (zx jt (zx zH (zx wD (zc (pv 3)) (zc (pv 3))) (zx Zu (zc (pv 3)) zm)) zm) zm) (zc (pv 2)))))))
noncomputable abbrev wc:Stmt:=top 42
theorem sc__law_name:zD ["_law_script", "_law_at", "_law_found", "_law_k"] ["_law_script", "_law_at"] (zi wc):=⟨rfl,rfl,rfl,by decide +kernel,rfl,by decide +kernel,by decide +kernel⟩
theorem W7{f:Addr}{fd:FuncData}(A_:zV K mg "_law_name" wc f fd)(h__law_drawn:DefOk P w K mg base "_law_drawn" 2 3 ["_law_script", "_law_k", "_law_many"] zq)(z_range:mg "range" = none):DefOk P w K mg base "_law_name" 3 2 ["_law_script", "_law_at"] xx:=by
 refine DefOk.mk (k:=2) A_ sc__law_name rfl (fun _ _ _ _ _ _ us hl=>by obtain⟨_,_,rfl⟩:=lnz2 hl;rfl) (fun cdv A outer s H E hr=>?_) fun _ _ _ h=>h
 exact(zn (z9 (i:=2) sc__law_name.nd rfl (Or.inl rfl) wS) (zn (xZ PassesOwn.never rfl (xc rfl z_range (zb (zx zH zm (zI h__law_drawn (hr.mono (by decide)) (zb (zc (pv 0)) (zb (zc (pv 1)) (zb zm zj))) (zh (zh (zh zp))))) zj)) (yt sc__law_name.nd rfl (Or.inl rfl)) (zo (z9 (i:=2) sc__law_name.nd rfl (Or.inl rfl) (zx zH (zc (pv 2)) (zP ye wS (zI h__law_drawn (hr.mono (by decide)) (zb (zc (pv 0)) (zb (zx zH (zx zH (zc (pv 1)) zm) (zc (pv 3))) (zb zm zj))) (zh (zh (zh zp))))))))) (zo (zO (zc (pv 2))))))
noncomputable abbrev xE:Stmt:=top 44
theorem sc__law_names:zD ["_law_script", "_law_at", "_law_most", "_law_found"] ["_law_script", "_law_at", "_law_most"] (zi xE):=⟨rfl,rfl,rfl,by decide +kernel,rfl,by decide +kernel,by decide +kernel⟩
theorem X2{f:Addr}{fd:FuncData}(A_:zV K mg "_law_names" xE f fd)(h__law_drawn:DefOk P w K mg base "_law_drawn" 2 3 ["_law_script", "_law_k", "_law_many"] zq)(h__law_name:DefOk P w K mg base "_law_name" 3 2 ["_law_script", "_law_at"] xx)(z_len:mg "len" = none)(z_range:mg "range" = none):DefOk P w K mg base "_law_names" 4 3 ["_law_script", "_law_at", "_law_most"] xl:=by
 refine DefOk.mk (k:=3) A_ sc__law_names rfl (fun _ _ _ _ _ _ us hl=>by obtain⟨_,_,_,rfl⟩:=lnz3 hl;rfl) (fun cdv A outer s H E hr=>?_) fun _ _ _ h=>h
 exact(zn (UL (i:=3) sc__law_names.nd rfl rfl rfl (tn:=["_law_k"]) (fr:=["_law_script", "_law_at"]) (idx:=[0,1]) rfl rfl ⟨rfl,rfl,⟨rfl,rfl,trivial⟩⟩ (ue 0) (PDI.h (xc rfl z_range (zb (zI h__law_drawn (hr.mono (by decide)) (zb (zc (pv 0)) (zb (zc (pv 1)) (zb (zx zH (zc (pv 2)) zm) zj))) (zh (zh (zh zp)))) zj))) (fun s H C fp=>(yt (show List.Nodup (["_law_k", "_law_script", "_law_at"]:List Str) by decide +kernel) rfl (Or.inl rfl))) (fun s H C fp=>Zj) (fun s H C fp=>(zI h__law_name (hr.mono (by decide)) (zb (zc (pv 1)) (zb (zx zH (zx zH (zc (pv 2)) zm) (zx wD zm (zc (pv 0)))) zj)) (zh (zh zp))))) (zn (yW (Zk (Zi (zN W5 (Zs (pv 3) rfl z_len) zm (zT _)) (uZ (zN (xI hr.units) (zI h__law_drawn (hr.mono (by decide)) (zb (zc (pv 0)) (zb (zx zH (zc (pv 1)) zm) (zb zm zj))) (zh (zh (zh zp)))) zm (zT _))))) (zo (TZ (pv 3) zm (T0 (pv 3) (x0 zm)))) zS) (zo (u3 (pv 3)))))
noncomputable abbrev y4:Stmt:=wV (top 38) 0
theorem j9:zD ["self", "names"] ["self", "names"] (zi y4):=⟨rfl,rfl,rfl,by decide +kernel,rfl,by decide +kernel,by decide +kernel⟩
theorem Zv{C_Trail:Addr}(A_Trail:ClsAt K mg "Trail" C_Trail)(n_Trail_undone:NoAttr K C_Trail "undone")(n_Trail_done:NoAttr K C_Trail "done")(n_Trail_names:NoAttr K C_Trail "names")(z_list:mg "list" = none){f:Addr}{fd:FuncData}(M_:Mk K C_Trail f)(D_:Fun K "__init__" "Trail.__init__" y4 f fd):ClsM P w K mg base "Trail" 1 1 ["self", "names"] ya:=by
 refine ClsM.mk (k:=0) A_Trail M_ D_ j9 rfl (fun _ _ _ _ _ _ us hl=>by obtain⟨_,_,rfl⟩:=lnz2 hl;rfl) (fun cdv A outer s H E hr=>?_)
 exact(zn (zc7 (pv 0) A_Trail.ns A_Trail.cls n_Trail_names (UN (LF rfl) rfl z_list boot_list (zb (zc (pv 1)) zj)) (by decide +kernel)) (zn (Zn (pv 0) A_Trail.ns A_Trail.cls n_Trail_done (vS zj) (by decide +kernel)) (zo (Zn (pv 0) A_Trail.ns A_Trail.cls n_Trail_undone (vS zj) (by decide +kernel)))))
noncomputable abbrev vb:Stmt:=top 31
theorem VP:zD ["names", "rows"] ["names", "rows"] (zi vb):=⟨rfl,rfl,rfl,by decide +kernel,rfl,by decide +kernel,by decide +kernel⟩
theorem V2{f c:Addr}(A_:Jh K mg "in_order" vb f c 126)(bm:BM mg base)(z_len:mg "len" = none)(z_sorted:mg "sorted" = none):DefOk P w K mg base "in_order" 4 2 ["names", "rows"] wj:=by
 refine DefOk.mkL (k:=3) A_ VP rfl (fun _ _ _ _ _ _ us hl=>by obtain⟨_,_,rfl⟩:=lnz2 hl;rfl) (fun A outer s H E hr=>?_)
 exact(zo (zO (Qo (P:=126) (p := "row") (fr:=["names"]) (idx:=[0]) rfl z_sorted PyProof.Rows.boot_sorted (zc (pv 1)) (hr.mono (by decide)) (TabsU.of (by decide)) bm rfl A_.tab (.head _) rfl ⟨rfl,rfl,trivial⟩ rfl rfl rfl (fun _ _ _ _ _=>rfl) (fun s H f cd=>(yw (zb (x0 (zP ye (zc (pv 0)) zm)) (zb (zU xv rfl z_len PySem.boot_len (zb (zP ye (zc (pv 1)) (zP ye (zc (pv 0)) zm)) zj)) (zb (zP ye (zc (pv 0)) zm) zj))))))))
noncomputable abbrev xB:Stmt:=top 32
theorem XT:zD ["names", "rows", "many"] ["names", "rows", "many"] (zi xB):=⟨rfl,rfl,rfl,by decide +kernel,rfl,by decide +kernel,by decide +kernel⟩
theorem XY{f:Addr}{fd:FuncData}(A_:zV K mg "first_rows" xB f fd)(h_in_order:DefOk P w K mg base "in_order" 4 2 ["names", "rows"] wj)(z_max:mg "max" = none):DefOk P w K mg base "first_rows" 5 3 ["names", "rows", "many"] xk:=by
 refine DefOk.mk (k:=4) A_ XT rfl (fun _ _ _ _ _ _ us hl=>by obtain⟨_,_,_,rfl⟩:=lnz3 hl;rfl) (fun cdv A outer s H E hr=>?_) fun _ _ _ h=>h
 exact(zo (zO (GN (zI h_in_order (hr.mono (by decide)) (zb (zc (pv 0)) (zb (zc (pv 1)) zj)) (zh (zh zp))) GM (Y6 (zU (LD rfl) rfl z_max boot_max (zb (zc (pv 2)) (zb zm zj)))))))
noncomputable abbrev yq:Stmt:=top 20
theorem sc_beginning_points:zD ["name", "place", "ahead"] ["name", "place"] (zi yq):=⟨rfl,rfl,rfl,by decide +kernel,rfl,by decide +kernel,by decide +kernel⟩
theorem jF{f:Addr}{fd:FuncData}(A_:zV K mg "beginning_points" yq f fd){t_FIGURES:Tok}(g_FIGURES:mg "FIGURES" = some (.str "0123456789" t_FIGURES)){t_SMALL:Tok}(g_SMALL:mg "SMALL" = some (.str "abcdefghijklmnopqrstuvwxyz" t_SMALL)){t_GREAT:Tok}(g_GREAT:mg "GREAT" = some (.str "ABCDEFGHIJKLMNOPQRSTUVWXYZ" t_GREAT)){t_AT_GREAT:Tok}(g_AT_GREAT:mg "AT_GREAT" = some (.int 5 t_AT_GREAT)){t_MARKS:Tok}(g_MARKS:mg "MARKS" = some (.str "_-./" t_MARKS)){t_BEHIND_MARK:Tok}(g_BEHIND_MARK:mg "BEHIND_MARK" = some (.int 6 t_BEHIND_MARK)){t_AT_BEGINNING:Tok}(g_AT_BEGINNING:mg "AT_BEGINNING" = some (.int 8 t_AT_BEGINNING)):DefOk P w K mg base "beginning_points" 1 2 ["name", "place"] yH:=by
 refine DefOk.mk (k:=0) A_ sc_beginning_points rfl (fun _ _ _ _ _ _ us hl=>by obtain⟨_,_,rfl⟩:=lnz2 hl;rfl) (fun cdv A outer s H E hr=>?_) fun _ _ _ h=>h
 exact(zn (yW (zN (xI hr.units) (zc (pv 1)) zm (zT _)) (zo (zO (vU rfl g_AT_BEGINNING))) zS) (zn (z9 (i:=2) sc_beginning_points.nd rfl (Or.inl rfl) (zP ye (zc (pv 0)) (zx xH (zc (pv 1)) zm))) (zn (yW (zN (ZW (jp hr)) (zc (pv 2)) (vh rfl g_MARKS) (by with_unfolding_all rfl)) (zo (zO (vU rfl g_BEHIND_MARK))) zS) (zn (yW (Zk (Zi (zN (ZW (jp hr)) (zP ye (zc (pv 0)) (zc (pv 1))) (vh rfl g_GREAT) (by with_unfolding_all rfl)) (uZ (Zk (W1 (zN (ZW (jp hr)) (zc (pv 2)) (vh rfl g_SMALL) (by with_unfolding_all rfl)) (Yw (zN (ZW (jp hr)) (zc (pv 2)) (vh rfl g_FIGURES) (by with_unfolding_all rfl)))))))) (zo (zO (vU rfl g_AT_GREAT))) zS) (zo (zO zm))))))
noncomputable abbrev xA:Stmt:=top 21
theorem sc_own_points:zD ["sign", "name", "place", "same"] ["sign", "name", "place"] (zi xA):=⟨rfl,rfl,rfl,by decide +kernel,rfl,by decide +kernel,by decide +kernel⟩
theorem XX{f:Addr}{fd:FuncData}(A_:zV K mg "own_points" xA f fd)(h_beginning_points:DefOk P w K mg base "beginning_points" 1 2 ["name", "place"] yH){t_EACH_PLACE:Tok}(g_EACH_PLACE:mg "EACH_PLACE" = some (.int 10 t_EACH_PLACE)){t_SAME_SIGN:Tok}(g_SAME_SIGN:mg "SAME_SIGN" = some (.int 1 t_SAME_SIGN)):DefOk P w K mg base "own_points" 2 3 ["sign", "name", "place"] yE:=by
 refine DefOk.mk (k:=1) A_ sc_own_points rfl (fun _ _ _ _ _ _ us hl=>by obtain⟨_,_,_,rfl⟩:=lnz3 hl;rfl) (fun cdv A outer s H E hr=>?_) fun _ _ _ h=>h
 exact(zn (z9 (i:=3) sc_own_points.nd rfl (Or.inl rfl) (GP (zN (xI hr.units) (zP ye (zc (pv 1)) (zc (pv 2))) (zc (pv 0)) (zT _)) (vU rfl g_SAME_SIGN) zm)) (zo (zO (zx zH (zx zH (vU rfl g_EACH_PLACE) (zI h_beginning_points (hr.mono (by decide)) (zb (zc (pv 1)) (zb (zc (pv 2)) zj)) (zh (zh zp)))) (zc (pv 3))))))
noncomputable abbrev ur:Stmt:=top 8
theorem Gb:zD ["sign", "other"] ["sign", "other"] (zi ur):=⟨rfl,rfl,rfl,by decide +kernel,rfl,by decide +kernel,by decide +kernel⟩
theorem GX{f:Addr}{fd:FuncData}(A_:zV K mg "meets" ur f fd){t_SMALL:Tok}(g_SMALL:mg "SMALL" = some (.str "abcdefghijklmnopqrstuvwxyz" t_SMALL)):DefOk P w K mg base "meets" 1 2 ["sign", "other"] x6:=by
 refine DefOk.mk (k:=0) A_ Gb rfl (fun _ _ _ _ _ _ us hl=>by obtain⟨_,_,rfl⟩:=lnz2 hl;rfl) (fun cdv A outer s H E hr=>?_) fun _ _ _ h=>h
 exact(zo (zO (GO (vV (xI hr.units) (zc (pv 0)) (zc (pv 1)) (zT _)) (Yz (W4 (vV (ZW (jp hr)) (zc (pv 0)) (vh rfl g_SMALL) (by with_unfolding_all rfl)) (Yz (vV (xI hr.units) (Qn (zc (pv 0))) (zc (pv 1)) (zT _))))))))
noncomputable abbrev yB:Stmt:=top 25
theorem jQ:zD ["sign", "name"] ["sign", "name"] (zi yB):=⟨rfl,rfl,rfl,by decide +kernel,rfl,by decide +kernel,by decide +kernel⟩
theorem jU{f:Addr}{fd:FuncData}(A_:zV K mg "last_sign_tails" yB f fd)(h_meets:DefOk P w K mg base "meets" 1 2 ["sign", "other"] x6)(h_own_points:DefOk P w K mg base "own_points" 2 3 ["sign", "name", "place"] yE)(z_len:mg "len" = none)(z_range:mg "range" = none):DefOk P w K mg base "last_sign_tails" 3 2 ["sign", "name"] yk:=by
 refine DefOk.mk (k:=2) A_ jQ rfl (fun _ _ _ _ _ _ us hl=>by obtain⟨_,_,rfl⟩:=lnz2 hl;rfl) (fun cdv A outer s H E hr=>?_) fun _ _ _ h=>h
 exact(zo (zO (ZT (ug (tn:=["place"]) (fr:=["sign", "name"]) (idx:=[0,1]) rfl rfl ⟨rfl,rfl,⟨rfl,rfl,trivial⟩⟩ (ue 0) (PDI.h (xc rfl z_range (zb (zU xv rfl z_len PySem.boot_len (zb (zc (pv 1)) zj)) zj))) (fun s H C fp=>(yt (show List.Nodup (["place", "sign", "name"]:List Str) by decide +kernel) rfl (Or.inl rfl))) (fun s H C fp=>(Y3 (Zl (zI h_meets (hr.mono (by decide)) (zb (zc (pv 1)) (zb (zP ye (zc (pv 2)) (zc (pv 0))) zj)) (zh (zh zp)))))) (fun s H C fp=>(yw (zb (zI h_own_points (hr.mono (by decide)) (zb (zc (pv 1)) (zb (zc (pv 2)) (zb (zc (pv 0)) zj))) (zh (zh (zh zp)))) (zb (vT (zb (zc (pv 0)) zj)) zj))))))))
noncomputable abbrev yV:Stmt:=top 24
theorem sc_first_of_most:zD ["tails", "chosen", "tail"] ["tails"] (zi yV):=⟨rfl,rfl,rfl,by decide +kernel,rfl,by decide +kernel,by decide +kernel⟩
theorem ZX{f:Addr}{fd:FuncData}(A_:zV K mg "first_of_most" yV f fd):DefOk P w K mg base "first_of_most" 1 1 ["tails"] zY:=by
 refine DefOk.mk (k:=0) A_ sc_first_of_most rfl (fun _ _ _ _ _ _ us hl=>by obtain⟨_,rfl⟩:=lnz1 hl;rfl) (fun cdv A outer s H E hr=>?_) fun _ _ _ h=>h
 exact(zn (z9 (i:=1) sc_first_of_most.nd rfl (Or.inl rfl) YA) (zn (xZ PassesOwn.never rfl (jr (zc (pv 0))) (yt sc_first_of_most.nd rfl (Or.inl rfl)) (zo (yW (Zk (W1 (zN zd0 (zc (pv 1)) YA (zT _)) (Yw (zN W5 (zP ye (zc (pv 2)) zm) (zP ye (zc (pv 1)) zm) (zT _))))) (zo (z9 (i:=1) sc_first_of_most.nd rfl (Or.inl rfl) (zc (pv 2)))) zS))) (zo (zO (zc (pv 1))))))
noncomputable abbrev xn:Stmt:=top 23
theorem sc_link_points:zD ["ahead", "place", "between"] ["ahead", "place"] (zi xn):=⟨rfl,rfl,rfl,by decide +kernel,rfl,by decide +kernel,by decide +kernel⟩
theorem Xb{f:Addr}{fd:FuncData}(A_:zV K mg "link_points" xn f fd){t_MOST_BETWEEN:Tok}(g_MOST_BETWEEN:mg "MOST_BETWEEN" = some (.int 5 t_MOST_BETWEEN)){t_BESIDE:Tok}(g_BESIDE:mg "BESIDE" = some (.int 7 t_BESIDE))(z_min:mg "min" = none):DefOk P w K mg base "link_points" 1 2 ["ahead", "place"] xq:=by
 refine DefOk.mk (k:=0) A_ sc_link_points rfl (fun _ _ _ _ _ _ us hl=>by obtain⟨_,_,rfl⟩:=lnz2 hl;rfl) (fun cdv A outer s H E hr=>?_) fun _ _ _ h=>h
 exact(zn (z9 (i:=2) sc_link_points.nd rfl (Or.inl rfl) (zx xH (zx xH (zc (pv 1)) (zc (pv 0))) zm)) (zn (yW (zN (xI hr.units) (zc (pv 2)) zm (zT _)) (zo (zO (vU rfl g_BESIDE))) zS) (zo (zO (x0 (zU (Vv rfl) rfl z_min boot_min (zb (zc (pv 2)) (zb (vU rfl g_MOST_BETWEEN) zj))))))))
noncomputable abbrev xa:Stmt:=top 26
theorem Ym:zD ["place", "tails"] ["place", "tails"] (zi xa):=⟨rfl,rfl,rfl,by decide +kernel,rfl,by decide +kernel,by decide +kernel⟩
theorem Yp{f:Addr}{fd:FuncData}(A_:zV K mg "linked_tails" xa f fd)(h_link_points:DefOk P w K mg base "link_points" 1 2 ["ahead", "place"] xq):DefOk P w K mg base "linked_tails" 2 2 ["place", "tails"] yN:=by
 refine DefOk.mk (k:=1) A_ Ym rfl (fun _ _ _ _ _ _ us hl=>by obtain⟨_,_,rfl⟩:=lnz2 hl;rfl) (fun cdv A outer s H E hr=>?_) fun _ _ _ h=>h
 exact(zo (zO (ZT (ug (tn:=["tail"]) (fr:=["place"]) (idx:=[0]) rfl rfl ⟨rfl,rfl,trivial⟩ (ue 0) (PDI.h (jr (zc (pv 1)))) (fun s H C fp=>(yt (show List.Nodup (["tail", "place"]:List Str) by decide +kernel) rfl (Or.inl rfl))) (fun s H C fp=>(Y3 (zN W5 (zP ye (zP ye (zc (pv 0)) zm) zm) (zc (pv 1)) (zT _)))) (fun s H C fp=>(yw (zb (zx zH (zP ye (zc (pv 0)) zm) (zI h_link_points (hr.mono (by decide)) (zb (zc (pv 1)) (zb (zP ye (zP ye (zc (pv 0)) zm) zm) zj)) (zh (zh zp)))) (zb (zP ye (zc (pv 0)) zm) zj))))))))
noncomputable abbrev y9:Stmt:=top 27
theorem sc_longer_tails:zD ["sign", "name", "tails", "longer", "place", "chosen"] ["sign", "name", "tails"] (zi y9):=⟨rfl,rfl,rfl,by decide +kernel,rfl,by decide +kernel,by decide +kernel⟩
theorem Yo{f:Addr}{fd:FuncData}(A_:zV K mg "longer_tails" y9 f fd)(h_meets:DefOk P w K mg base "meets" 1 2 ["sign", "other"] x6)(h_own_points:DefOk P w K mg base "own_points" 2 3 ["sign", "name", "place"] yE)(h_linked_tails:DefOk P w K mg base "linked_tails" 2 2 ["place", "tails"] yN)(h_first_of_most:DefOk P w K mg base "first_of_most" 1 1 ["tails"] zY)(z_len:mg "len" = none)(z_range:mg "range" = none):DefOk P w K mg base "longer_tails" 3 3 ["sign", "name", "tails"] xf:=by
 refine DefOk.mk (k:=2) A_ sc_longer_tails rfl (fun _ _ _ _ _ _ us hl=>by obtain⟨_,_,_,rfl⟩:=lnz3 hl;rfl) (fun cdv A outer s H E hr=>?_) fun _ _ _ h=>h
 exact(zn (u0 (i:=3) sc_longer_tails.nd rfl (Or.inl rfl) (vS zj)) (zn (xZ PassesOwn.never rfl (xc rfl z_range (zb (zU xv rfl z_len PySem.boot_len (zb (zc (pv 1)) zj)) zj)) (yt sc_longer_tails.nd rfl (Or.inl rfl)) (zo (yW (Zl (zI h_meets (hr.mono (by decide)) (zb (zc (pv 0)) (zb (zP ye (zc (pv 1)) (zc (pv 4))) zj)) (zh (zh zp)))) (zn (z9 (i:=5) sc_longer_tails.nd rfl (Or.inl rfl) (zI h_first_of_most (hr.mono (by decide)) (zb (zI h_linked_tails (hr.mono (by decide)) (zb (zc (pv 4)) (zb (zc (pv 2)) zj)) (zh (zh zp))) zj) (zh zp))) (zo (yW (zN Ws (zc (pv 5)) YA (zT _)) (zo (Zo (pv 3) (yw (zb (zx zH (zI h_own_points (hr.mono (by decide)) (zb (zc (pv 0)) (zb (zc (pv 1)) (zb (zc (pv 4)) zj))) (zh (zh (zh zp)))) (zP ye (zc (pv 5)) zm)) (zb (zx zH (vT (zb (zc (pv 4)) zj)) (zP ye (zc (pv 5)) zm)) zj))))) zS))) zS))) (zo (u3 (pv 3)))))
noncomputable abbrev xp:Stmt:=top 22
theorem YT:zD ["place"] ["place"] (zi xp):=⟨rfl,rfl,rfl,by decide +kernel,rfl,by decide +kernel,by decide +kernel⟩
theorem Xc{f:Addr}{fd:FuncData}(A_:zV K mg "lead_points" xp f fd){t_MOST_AHEAD:Tok}(g_MOST_AHEAD:mg "MOST_AHEAD" = some (.int 3 t_MOST_AHEAD))(z_min:mg "min" = none):DefOk P w K mg base "lead_points" 1 1 ["place"] y0:=by
 refine DefOk.mk (k:=0) A_ YT rfl (fun _ _ _ _ _ _ us hl=>by obtain⟨_,rfl⟩:=lnz1 hl;rfl) (fun cdv A outer s H E hr=>?_) fun _ _ _ h=>h
 exact(zo (zO (x0 (zU (Vv rfl) rfl z_min boot_min (zb (zc (pv 0)) (zb (vU rfl g_MOST_AHEAD) zj))))))
noncomputable abbrev jS:Stmt:=top 28
theorem sc_best:zD ["query", "name", "tails", "number"] ["query", "name"] (zi jS):=⟨rfl,rfl,rfl,by decide +kernel,rfl,by decide +kernel,by decide +kernel⟩
theorem T6{f:Addr}{fd:FuncData}(A_:zV K mg "best" jS f fd)(h_lead_points:DefOk P w K mg base "lead_points" 1 1 ["place"] y0)(h_first_of_most:DefOk P w K mg base "first_of_most" 1 1 ["tails"] zY)(h_longer_tails:DefOk P w K mg base "longer_tails" 3 3 ["sign", "name", "tails"] xf)(h_last_sign_tails:DefOk P w K mg base "last_sign_tails" 3 2 ["sign", "name"] yk)(z_len:mg "len" = none)(z_range:mg "range" = none):DefOk P w K mg base "best" 4 2 ["query", "name"] v7:=by
 refine DefOk.mk (k:=3) A_ sc_best rfl (fun _ _ _ _ _ _ us hl=>by obtain⟨_,_,rfl⟩:=lnz2 hl;rfl) (fun cdv A outer s H E hr=>?_) fun _ _ _ h=>h
 exact(zn (yW (zN (xI hr.units) (zU xv rfl z_len PySem.boot_len (zb (zc (pv 0)) zj)) zm (zT _)) (zo (zO (yw (zb zm (zb (vT zj) zj))))) zS) (zn (z9 (i:=2) sc_best.nd rfl (Or.inl rfl) (zI h_last_sign_tails (hr.mono (by decide)) (zb (zP ye (zc (pv 0)) (x0 zm)) (zb (zc (pv 1)) zj)) (zh (zh zp)))) (zn (xZ PassesOwn.never rfl (Y7 rfl z_range (zb (zx xH (zU xv rfl z_len PySem.boot_len (zb (zc (pv 0)) zj)) zm) (zb (x0 zm) (zb (x0 zm) zj)))) (yt sc_best.nd rfl (Or.inl rfl)) (zo (z9 (i:=2) sc_best.nd rfl (Or.inl rfl) (zI h_longer_tails (hr.mono (by decide)) (zb (zP ye (zc (pv 0)) (zc (pv 3))) (zb (zc (pv 1)) (zb (zc (pv 2)) zj))) (zh (zh (zh zp))))))) (zo (zO (zI h_first_of_most (hr.mono (by decide)) (zb (ZT (ug (tn:=["tail"]) (fr:=[]) (idx:=[]) rfl rfl trivial (ue 0) (PDI.h (jr (zc (pv 2)))) (fun s H C fp=>(yt (show List.Nodup (["tail"]:List Str) by decide +kernel) rfl (Or.inl rfl))) (fun s H C fp=>Zj) (fun s H C fp=>(yw (zb (zx zH (zP ye (zc (pv 0)) zm) (zI h_lead_points (hr.mono (by decide)) (zb (zP ye (zP ye (zc (pv 0)) zm) zm) zj) (zh zp))) (zb (zP ye (zc (pv 0)) zm) zj)))))) zj) (zh zp)))))))
noncomputable abbrev xb:Stmt:=top 30
theorem sc_fitting_rows:zD ["names", "query", "numbers", "rows", "number", "laid"] ["names", "query", "numbers"] (zi xb):=⟨rfl,rfl,rfl,by decide +kernel,rfl,by decide +kernel,by decide +kernel⟩
theorem Yq{f:Addr}{fd:FuncData}(A_:zV K mg "fitting_rows" xb f fd)(h_best:DefOk P w K mg base "best" 4 2 ["query", "name"] v7):DefOk P w K mg base "fitting_rows" 5 3 ["names", "query", "numbers"] yO:=by
 refine DefOk.mk (k:=4) A_ sc_fitting_rows rfl (fun _ _ _ _ _ _ us hl=>by obtain⟨_,_,_,rfl⟩:=lnz3 hl;rfl) (fun cdv A outer s H E hr=>?_) fun _ _ _ h=>h
 exact(zn (u0 (i:=3) sc_fitting_rows.nd rfl (Or.inl rfl) (vS zj)) (zn (xZ PassesOwn.never rfl (jr (zc (pv 2))) (yt sc_fitting_rows.nd rfl (Or.inl rfl)) (zn (z9 (i:=5) sc_fitting_rows.nd rfl (Or.inl rfl) (zI h_best (hr.mono (by decide)) (zb (zc (pv 1)) (zb (zP ye (zc (pv 0)) (zc (pv 4))) zj)) (zh (zh zp)))) (zo (yW (zN Ws (zc (pv 5)) YA (zT _)) (zo (Zo (pv 3) (yw (zb (zP ye (zc (pv 5)) zm) (zb (zc (pv 4)) zj))))) zS)))) (zo (u3 (pv 3)))))
noncomputable abbrev wG:Stmt:=top 33
theorem VQ:zD ["names", "query"] ["names", "query"] (zi wG):=⟨rfl,rfl,rfl,by decide +kernel,rfl,by decide +kernel,by decide +kernel⟩
theorem V3{f:Addr}{fd:FuncData}(A_:zV K mg "all_rows" wG f fd)(h_fitting_rows:DefOk P w K mg base "fitting_rows" 5 3 ["names", "query", "numbers"] yO)(z_len:mg "len" = none)(z_list:mg "list" = none)(z_range:mg "range" = none):DefOk P w K mg base "all_rows" 6 2 ["names", "query"] wk:=by
 refine DefOk.mk (k:=5) A_ VQ rfl (fun _ _ _ _ _ _ us hl=>by obtain⟨_,_,rfl⟩:=lnz2 hl;rfl) (fun cdv A outer s H E hr=>?_) fun _ _ _ h=>h
 exact(zo (zO (zI h_fitting_rows (hr.mono (by decide)) (zb (zc (pv 0)) (zb (zc (pv 1)) (zb (ZT (Yn rfl rfl z_list rfl z_range (zb (zU xv rfl z_len PySem.boot_len (zb (zc (pv 0)) zj)) zj))) zj))) (zh (zh (zh zp))))))
noncomputable abbrev ut:Stmt:=top 34
theorem Gc:zD ["names", "query", "many"] ["names", "query", "many"] (zi ut):=⟨rfl,rfl,rfl,by decide +kernel,rfl,by decide +kernel,by decide +kernel⟩
theorem GY{f:Addr}{fd:FuncData}(A_:zV K mg "finds" ut f fd)(h_all_rows:DefOk P w K mg base "all_rows" 6 2 ["names", "query"] wk)(h_first_rows:DefOk P w K mg base "first_rows" 5 3 ["names", "rows", "many"] xk):DefOk P w K mg base "finds" 7 3 ["names", "query", "many"] wt:=by
 refine DefOk.mk (k:=6) A_ Gc rfl (fun _ _ _ _ _ _ us hl=>by obtain⟨_,_,_,rfl⟩:=lnz3 hl;rfl) (fun cdv A outer s H E hr=>?_) fun _ _ _ h=>h
 exact(zo (zO (zI h_first_rows (hr.mono (by decide)) (zb (zc (pv 0)) (zb (zI h_all_rows (hr.mono (by decide)) (zb (zc (pv 0)) (zb (zc (pv 1)) zj)) (zh (zh zp))) (zb (zc (pv 2)) zj))) (zh (zh (zh zp))))))
noncomputable abbrev wd:Stmt:=top 43
theorem WQ:zD ["_law_sign"] ["_law_sign"] (zi wd):=⟨rfl,rfl,rfl,by decide +kernel,rfl,by decide +kernel,by decide +kernel⟩
theorem W8{f:Addr}{fd:FuncData}(A_:zV K mg "_law_mark" wd f fd):DefOk P w K mg base "_law_mark" 1 1 ["_law_sign"] xz:=by
 refine DefOk.mk (k:=0) A_ WQ rfl (fun _ _ _ _ _ _ us hl=>by obtain⟨_,rfl⟩:=lnz1 hl;rfl) (fun cdv A outer s H E hr=>?_) fun _ _ _ h=>h
 exact(zo (zO (vV (ZW (jp hr)) (zc (pv 0)) wS (by with_unfolding_all rfl))))
noncomputable abbrev xD:Stmt:=top 45
theorem sc__law_query:zD ["_law_script", "_law_at", "_law_name_here", "_law_most", "_law_found", "_law_place", "_law_k", "_law_sign"] ["_law_script", "_law_at", "_law_name_here", "_law_most"] (zi xD):=⟨rfl,rfl,rfl,by decide +kernel,rfl,by decide +kernel,by decide +kernel⟩
theorem X1{f:Addr}{fd:FuncData}(A_:zV K mg "_law_query" xD f fd)(h__law_drawn:DefOk P w K mg base "_law_drawn" 2 3 ["_law_script", "_law_k", "_law_many"] zq)(h__law_mark:DefOk P w K mg base "_law_mark" 1 1 ["_law_sign"] xz)(z_range:mg "range" = none)(z_len:mg "len" = none)(z_min:mg "min" = none):DefOk P w K mg base "_law_query" 3 4 ["_law_script", "_law_at", "_law_name_here", "_law_most"] xM:=by
 refine DefOk.mk (k:=2) A_ sc__law_query rfl (fun _ _ _ _ _ _ us hl=>by obtain⟨_,_,_,_,rfl⟩:=lnz4 hl;rfl) (fun cdv A outer s H E hr=>?_) fun _ _ _ h=>h
 exact(zn (z9 (i:=4) sc__law_query.nd rfl (Or.inl rfl) wS) (zn (z9 (i:=5) sc__law_query.nd rfl (Or.inl rfl) zm) (zn (xZ PassesOwn.never rfl (xc rfl z_range (zb (zI h__law_drawn (hr.mono (by decide)) (zb (zc (pv 0)) (zb (zc (pv 1)) (zb (zx zH (zc (pv 3)) zm) zj))) (zh (zh (zh zp)))) zj)) (yt sc__law_query.nd rfl (Or.inl rfl)) (zn (z9 (i:=5) sc__law_query.nd rfl (Or.inl rfl) (zU (Vv rfl) rfl z_min boot_min (zb (zx xH (zU xv rfl z_len PySem.boot_len (zb (zc (pv 2)) zj)) zm) (zb (zx zH (zc (pv 5)) (zI h__law_drawn (hr.mono (by decide)) (zb (zc (pv 0)) (zb (zx zH (zx zH (zc (pv 1)) zm) (zx wD zm (zc (pv 6)))) (zb zm zj))) (zh (zh (zh zp))))) zj)))) (zn (z9 (i:=7) sc__law_query.nd rfl (Or.inl rfl) (Qp (GO (GN (zc (pv 2)) (Y6 (zc (pv 5))) (Y6 (zx zH (zc (pv 5)) zm))) (Yz wS)))) (zn (z9 (i:=5) sc__law_query.nd rfl (Or.inl rfl) (zx zH (zc (pv 5)) zm)) (zn (yW (zN (xI hr.units) (zI h__law_drawn (hr.mono (by decide)) (zb (zc (pv 0)) (zb (zx zH (zx zH (zc (pv 1)) zm) (zx wD zm (zc (pv 6)))) (zb zm zj))) (zh (zh (zh zp)))) zm (zT _)) (zo (z9 (i:=7) sc__law_query.nd rfl (Or.inl rfl) (zP ye wS (zI h__law_drawn (hr.mono (by decide)) (zb (zc (pv 0)) (zb (zx zH (zx zH (zc (pv 1)) zm) (zx wD zm (zc (pv 6)))) (zb zm zj))) (zh (zh (zh zp))))))) zS) (zo (yW (TY (Zl (zI h__law_mark (hr.mono (by decide)) (zb (zc (pv 7)) zj) (zh zp)))) (zo (z9 (i:=4) sc__law_query.nd rfl (Or.inl rfl) (zx zH (zc (pv 4)) (zc (pv 7))))) zS))))))) (zo (zO (zc (pv 4)))))))
noncomputable abbrev xC:Stmt:=top 46
theorem XU:zD ["_law_script", "_law_at", "_law_names_here"] ["_law_script", "_law_at", "_law_names_here"] (zi xC):=⟨rfl,rfl,rfl,by decide +kernel,rfl,by decide +kernel,by decide +kernel⟩
theorem XZ{f:Addr}{fd:FuncData}(A_:zV K mg "_law_typed" xC f fd)(h__law_drawn:DefOk P w K mg base "_law_drawn" 2 3 ["_law_script", "_law_k", "_law_many"] zq)(h__law_query:DefOk P w K mg base "_law_query" 3 4 ["_law_script", "_law_at", "_law_name_here", "_law_most"] xM)(z_len:mg "len" = none):DefOk P w K mg base "_law_typed" 4 3 ["_law_script", "_law_at", "_law_names_here"] xL:=by
 refine DefOk.mk (k:=3) A_ XU rfl (fun _ _ _ _ _ _ us hl=>by obtain⟨_,_,_,rfl⟩:=lnz3 hl;rfl) (fun cdv A outer s H E hr=>?_) fun _ _ _ h=>h
 exact(zo (zO (zI h__law_query (hr.mono (by decide)) (zb (zc (pv 0)) (zb (zc (pv 1)) (zb (zP ye (zx zH (zc (pv 2)) (vT (zb wS zj))) (zI h__law_drawn (hr.mono (by decide)) (zb (zc (pv 0)) (zb (zx zH (zc (pv 1)) zm) (zb (zx zH (zU xv rfl z_len PySem.boot_len (zb (zc (pv 2)) zj)) zm) zj))) (zh (zh (zh zp))))) (zb zm zj)))) (zh (zh (zh (zh zp)))))))
noncomputable abbrev xW:Stmt:=wV (top 38) 4
theorem YX:zD ["self"] ["self"] (zi xW):=⟨rfl,rfl,rfl,by decide +kernel,rfl,by decide +kernel,by decide +kernel⟩
theorem Xg{C_Trail:Addr}(A_Trail:ClsAt K mg "Trail" C_Trail)(n_Trail_done:NoAttr K C_Trail "done"){t_ASK:Tok}(g_ASK:mg "ASK" = some (.str "ask" t_ASK))(z_len:mg "len" = none){f:Addr}{fd:FuncData}(M_:uM K C_Trail "asked" f)(D_:Fun K "asked" "Trail.asked" xW f fd):MetR P w K mg base "Trail" "asked" 1 0 ["self"] z0:=by
 refine MetR.mk (k:=0) A_Trail M_ D_ YX rfl (fun _ _ _ _ _ _ us hl=>by obtain⟨_,rfl⟩:=lnz1 hl;rfl) (fun cdv A outer s H E hr=>?_)
 exact(zn (yW (Zk (Zi (zN W5 (u6 (pv 0) A_Trail.ns A_Trail.cls n_Trail_done rfl z_len (by decide +kernel)) zm (zT _)) (uZ (zN (xI hr.units) (zP ye (YB (pv 0) A_Trail.ns A_Trail.cls n_Trail_done (x0 zm) (by decide +kernel)) zm) (vh rfl g_ASK) (zT _))))) (zo (zO (zP ye (YB (pv 0) A_Trail.ns A_Trail.cls n_Trail_done (x0 zm) (by decide +kernel)) zm))) zS) (zo (zO wS)))
noncomputable abbrev wn:Stmt:=wV (top 38) 1
theorem XV:zD ["self", "kind", "thing"] ["self", "kind", "thing"] (zi wn):=⟨rfl,rfl,rfl,by decide +kernel,rfl,by decide +kernel,by decide +kernel⟩
theorem X6{C_Trail:Addr}(A_Trail:ClsAt K mg "Trail" C_Trail)(n_Trail_undone:NoAttr K C_Trail "undone")(n_Trail_done:NoAttr K C_Trail "done"){f:Addr}{fd:FuncData}(M_:uM K C_Trail "step" f)(D_:Fun K "step" "Trail.step" wn f fd):MetM P w K mg base "Trail" "step" 1 2 ["self", "kind", "thing"] yZ:=by
 refine MetM.mk (k:=0) A_Trail M_ D_ XV rfl (fun _ _ _ _ _ _ us hl=>by obtain⟨_,_,_,rfl⟩:=lnz3 hl;rfl) (fun cdv A outer s H E hr=>?_)
 exact(zn (GJ (pv 0) A_Trail.ns A_Trail.cls n_Trail_done (yw (zb (zc (pv 1)) (zb (zc (pv 2)) zj))) (by decide +kernel)) (zo (Zn (pv 0) A_Trail.ns A_Trail.cls n_Trail_undone (vS zj) (by decide +kernel))))
noncomputable abbrev wo:Stmt:=wV (top 38) 3
theorem sc_Trail_pick:zD ["self", "place", "rows", "number"] ["self", "place"] (zi wo):=⟨rfl,rfl,rfl,by decide +kernel,rfl,by decide +kernel,by decide +kernel⟩
theorem X7{C_Trail:Addr}(A_Trail:ClsAt K mg "Trail" C_Trail)(n_Trail_names:NoAttr K C_Trail "names")(h_Trail_step:MetM P w K mg base "Trail" "step" 1 2 ["self", "kind", "thing"] yZ)(h_Trail_asked:MetR P w K mg base "Trail" "asked" 1 0 ["self"] z0)(h_finds:DefOk P w K mg base "finds" 7 3 ["names", "query", "many"] wt){t_PICK:Tok}(g_PICK:mg "PICK" = some (.str "pick" t_PICK))(z_len:mg "len" = none){f:Addr}{fd:FuncData}(M_:uM K C_Trail "pick" f)(D_:Fun K "pick" "Trail.pick" wo f fd):MetM P w K mg base "Trail" "pick" 8 1 ["self", "place"] wu:=by
 refine MetM.mk (k:=7) A_Trail M_ D_ sc_Trail_pick rfl (fun _ _ _ _ _ _ us hl=>by obtain⟨_,_,rfl⟩:=lnz2 hl;rfl) (fun cdv A outer s H E hr=>?_)
 exact(zn (z9 (i:=2) sc_Trail_pick.nd rfl (Or.inl rfl) (zI h_finds (hr.mono (by decide)) (zb (W3 (pv 0) A_Trail.ns A_Trail.cls n_Trail_names (by decide +kernel)) (zb (yD h_Trail_asked (hr.mono (by decide)) (pv 0)) (zb (zU xv rfl z_len PySem.boot_len (zb (W3 (pv 0) A_Trail.ns A_Trail.cls n_Trail_names (by decide +kernel)) zj)) zj))) (zh (zh (zh zp))))) (zn (yW (Zk (W1 (zN GV (zc (pv 1)) zm (zT _)) (Yw (zN zd1 (zc (pv 1)) (zU xv rfl z_len PySem.boot_len (zb (zc (pv 2)) zj)) (zT _))))) (zo ZS) zS) (zn (z9 (i:=3) sc_Trail_pick.nd rfl (Or.inl rfl) (zP ye (zP ye (zc (pv 2)) (zc (pv 1))) zm)) (zn (wK (Zq h_Trail_step (hr.mono (by decide)) (pv 0) (zb (vh rfl g_PICK) (zb (zc (pv 3)) zj)) (zh (zh zp)))) (zo (wB (zc (pv 3))))))))
noncomputable abbrev yC:Stmt:=top 9
theorem sc_earliest_places:zD ["query", "name", "places", "place"] ["query", "name"] (zi yC):=⟨rfl,rfl,rfl,by decide +kernel,rfl,by decide +kernel,by decide +kernel⟩
theorem jV{f:Addr}{fd:FuncData}(A_:zV K mg "earliest_places" yC f fd)(h_meets:DefOk P w K mg base "meets" 1 2 ["sign", "other"] x6)(z_len:mg "len" = none)(z_range:mg "range" = none):DefOk P w K mg base "earliest_places" 2 2 ["query", "name"] yT:=by
 refine DefOk.mk (k:=1) A_ sc_earliest_places rfl (fun _ _ _ _ _ _ us hl=>by obtain⟨_,_,rfl⟩:=lnz2 hl;rfl) (fun cdv A outer s H E hr=>?_) fun _ _ _ h=>h
 exact(zn (u0 (i:=2) sc_earliest_places.nd rfl (Or.inl rfl) (vS zj)) (zn (xZ PassesOwn.never rfl (xc rfl z_range (zb (zU xv rfl z_len PySem.boot_len (zb (zc (pv 1)) zj)) zj)) (yt sc_earliest_places.nd rfl (Or.inl rfl)) (zo (yW (Zk (Zi (zN GV (Zs (pv 2) rfl z_len) (zU xv rfl z_len PySem.boot_len (zb (zc (pv 0)) zj)) (zT _)) (uZ (Zl (zI h_meets (hr.mono (by decide)) (zb (zP ye (zc (pv 0)) (Zs (pv 2) rfl z_len)) (zb (zP ye (zc (pv 1)) (zc (pv 3))) zj)) (zh (zh zp))))))) (zo (Zo (pv 2) (zc (pv 3)))) zS))) (zo (u3 (pv 2)))))
noncomputable abbrev jR:Stmt:=top 10
theorem Ts:zD ["query", "name"] ["query", "name"] (zi jR):=⟨rfl,rfl,rfl,by decide +kernel,rfl,by decide +kernel,by decide +kernel⟩
theorem T5{f:Addr}{fd:FuncData}(A_:zV K mg "fits" jR f fd)(h_earliest_places:DefOk P w K mg base "earliest_places" 2 2 ["query", "name"] yT)(z_len:mg "len" = none):DefOk P w K mg base "fits" 3 2 ["query", "name"] u8:=by
 refine DefOk.mk (k:=2) A_ Ts rfl (fun _ _ _ _ _ _ us hl=>by obtain⟨_,_,rfl⟩:=lnz2 hl;rfl) (fun cdv A outer s H E hr=>?_) fun _ _ _ h=>h
 exact(zo (zO (vV (xI hr.units) (zU xv rfl z_len PySem.boot_len (zb (zI h_earliest_places (hr.mono (by decide)) (zb (zc (pv 0)) (zb (zc (pv 1)) zj)) (zh (zh zp))) zj)) (zU xv rfl z_len PySem.boot_len (zb (zc (pv 0)) zj)) (zT _))))
noncomputable abbrev wJ:Stmt:=wV (top 38) 2
theorem WS:zD ["self", "query"] ["self", "query"] (zi wJ):=⟨rfl,rfl,rfl,by decide +kernel,rfl,by decide +kernel,by decide +kernel⟩
theorem Vb{C_Trail:Addr}(A_Trail:ClsAt K mg "Trail" C_Trail)(n_Trail_names:NoAttr K C_Trail "names")(h_Trail_step:MetM P w K mg base "Trail" "step" 1 2 ["self", "kind", "thing"] yZ)(h_fits:DefOk P w K mg base "fits" 3 2 ["query", "name"] u8){t_ASK:Tok}(g_ASK:mg "ASK" = some (.str "ask" t_ASK))(z_len:mg "len" = none){f:Addr}{fd:FuncData}(M_:uM K C_Trail "ask" f)(D_:Fun K "ask" "Trail.ask" wJ f fd):MetM P w K mg base "Trail" "ask" 4 1 ["self", "query"] wM:=by
 refine MetM.mk (k:=3) A_Trail M_ D_ WS rfl (fun _ _ _ _ _ _ us hl=>by obtain⟨_,_,rfl⟩:=lnz2 hl;rfl) (fun cdv A outer s H E hr=>?_)
 exact(zn (wK (Zq h_Trail_step (hr.mono (by decide)) (pv 0) (zb (vh rfl g_ASK) (zb (zc (pv 1)) zj)) (zh (zh zp)))) (zo (wB (zU xv rfl z_len PySem.boot_len (zb (ZT (ug (tn:=["name"]) (fr:=["query"]) (idx:=[1]) rfl rfl ⟨rfl,rfl,trivial⟩ (ue 0) (PDI.h (jr (W3 (pv 0) A_Trail.ns A_Trail.cls n_Trail_names (by decide +kernel)))) (fun s H C fp=>(yt (show List.Nodup (["name", "query"]:List Str) by decide +kernel) rfl (Or.inl rfl))) (fun s H C fp=>(Y3 (Zl (zI h_fits (hr.mono (by decide)) (zb (zc (pv 1)) (zb (zc (pv 0)) zj)) (zh (zh zp)))))) (fun s H C fp=>(zc (pv 0))))) zj)))))
noncomputable abbrev wb:Stmt:=top 47
theorem sc__law_step:zD ["_law_script", "_law_at", "_law_trail", "_law_names_here", "_law_rows"] ["_law_script", "_law_at", "_law_trail", "_law_names_here"] (zi wb):=⟨rfl,rfl,rfl,by decide +kernel,rfl,by decide +kernel,by decide +kernel⟩
theorem W6{f:Addr}{fd:FuncData}(D_:zV K mg "_law_step" wb f fd)(h_Trail_pick:MetM P w K mg base "Trail" "pick" 8 1 ["self", "place"] wu)(h_Trail_ask:MetM P w K mg base "Trail" "ask" 4 1 ["self", "query"] wM)(h_Trail_asked:MetR P w K mg base "Trail" "asked" 1 0 ["self"] z0)(h__law_drawn:DefOk P w K mg base "_law_drawn" 2 3 ["_law_script", "_law_k", "_law_many"] zq)(h__law_typed:DefOk P w K mg base "_law_typed" 4 3 ["_law_script", "_law_at", "_law_names_here"] xL)(h_finds:DefOk P w K mg base "finds" 7 3 ["names", "query", "many"] wt)(z_len:mg "len" = none):DefM P w K mg base "_law_step" "Trail" 9 2 3 ["_law_script", "_law_at", "_law_trail", "_law_names_here"] yP:=by
 refine DefM.mk (k:=8) D_ sc__law_step rfl (fun _ _ _ _ _ _ us hl=>by obtain⟨_,_,_,_,rfl⟩:=lnz4 hl;rfl) (fun cdv A outer s H E hr=>?_)
 exact(zn (z9 (i:=4) sc__law_step.nd rfl (Or.inl rfl) (zI h_finds (hr.mono (by decide)) (zb (zc (pv 3)) (zb (yD h_Trail_asked (hr.mono (by decide)) (pv 2)) (zb (zU xv rfl z_len PySem.boot_len (zb (zc (pv 3)) zj)) zj))) (zh (zh (zh zp))))) (zo (yW (Zk (Zi (zN (wI hr.units) (zc (pv 4)) (vT zj) (zT _)) (uZ (zN (xI hr.units) (zI h__law_drawn (hr.mono (by decide)) (zb (zc (pv 0)) (zb (zc (pv 1)) (zb zm zj))) (zh (zh (zh zp)))) zm (zT _))))) (zo (wK (Zq h_Trail_pick (hr.mono (by decide)) (pv 2) (zb (zI h__law_drawn (hr.mono (by decide)) (zb (zc (pv 0)) (zb (zx zH (zc (pv 1)) zm) (zb (zU xv rfl z_len PySem.boot_len (zb (zc (pv 4)) zj)) zj))) (zh (zh (zh zp)))) zj) (zh zp)))) (zo (wK (Zq h_Trail_ask (hr.mono (by decide)) (pv 2) (zb (zI h__law_typed (hr.mono (by decide)) (zb (zc (pv 0)) (zb (zx zH (zc (pv 1)) zm) (zb (zc (pv 3)) zj))) (zh (zh (zh zp)))) zj) (zh zp)))))))
noncomputable abbrev xr:Stmt:=wV (top 38) 5
theorem sc_Trail_chosen:zD ["self", "picks", "query", "kind", "thing"] ["self"] (zi xr):=⟨rfl,rfl,rfl,by decide +kernel,rfl,by decide +kernel,by decide +kernel⟩
theorem Yr{C_Trail:Addr}(A_Trail:ClsAt K mg "Trail" C_Trail)(n_Trail_done:NoAttr K C_Trail "done"){t_ASK:Tok}(g_ASK:mg "ASK" = some (.str "ask" t_ASK)){t_PICK:Tok}(g_PICK:mg "PICK" = some (.str "pick" t_PICK)){f:Addr}{fd:FuncData}(M_:uM K C_Trail "chosen" f)(D_:Fun K "chosen" "Trail.chosen" xr f fd):MetR P w K mg base "Trail" "chosen" 1 0 ["self"] xu:=by
 refine MetR.mk (k:=0) A_Trail M_ D_ sc_Trail_chosen rfl (fun _ _ _ _ _ _ us hl=>by obtain⟨_,rfl⟩:=lnz1 hl;rfl) (fun cdv A outer s H E hr=>?_)
 exact(zn (u0 (i:=1) sc_Trail_chosen.nd rfl (Or.inl rfl) (vS zj)) (zn (z9 (i:=2) sc_Trail_chosen.nd rfl (Or.inl rfl) wS) (zn (GI PassesOwn.never rfl (pv 0) A_Trail.ns A_Trail.cls n_Trail_done (VZ rfl sc_Trail_chosen.nd rfl (Or.inl rfl) rfl (Or.inl rfl)) (zn (yW (zN (xI hr.units) (zc (pv 3)) (vh rfl g_PICK) (zT _)) (zo (Zo (pv 1) (yw (zb (zc (pv 2)) (zb (zc (pv 4)) zj))))) zS) (zo (z9 (i:=2) sc_Trail_chosen.nd rfl (Or.inl rfl) (GP (zN (xI hr.units) (zc (pv 3)) (vh rfl g_ASK) (zT _)) (zc (pv 4)) wS)))) (by decide +kernel)) (zo (u3 (pv 1))))))
noncomputable abbrev xT:Stmt:=wV (top 38) 6
theorem YU:zD ["self"] ["self"] (zi xT):=⟨rfl,rfl,rfl,by decide +kernel,rfl,by decide +kernel,by decide +kernel⟩
theorem Xd{C_Trail:Addr}(A_Trail:ClsAt K mg "Trail" C_Trail)(n_Trail_done:NoAttr K C_Trail "done"){f:Addr}{fd:FuncData}(M_:uM K C_Trail "steps" f)(D_:Fun K "steps" "Trail.steps" xT f fd):MetR P w K mg base "Trail" "steps" 1 0 ["self"] yA:=by
 refine MetR.mk (k:=0) A_Trail M_ D_ YU rfl (fun _ _ _ _ _ _ us hl=>by obtain⟨_,rfl⟩:=lnz1 hl;rfl) (fun cdv A outer s H E hr=>?_)
 exact(zo (zO (ZT (ug (tn:=["kind", "thing"]) (fr:=[]) (idx:=[]) rfl rfl trivial (Ga 0 1) (zc8 (pv 0) A_Trail.ns A_Trail.cls n_Trail_done (by decide +kernel)) (fun s H C fp=>(VZ rfl (show List.Nodup (["kind", "thing"]:List Str) by decide +kernel) rfl (Or.inl rfl) rfl (Or.inl rfl))) (fun s H C fp=>Zj) (fun s H C fp=>(yw (zb (zc (pv 0)) (zb (zc (pv 1)) zj))))))))
noncomputable abbrev wH:Stmt:=top 48
theorem VR:zD ["_law_trail"] ["_law_trail"] (zi wH):=⟨rfl,rfl,rfl,by decide +kernel,rfl,by decide +kernel,by decide +kernel⟩
theorem V4{f:Addr}{fd:FuncData}(D_:zV K mg "_law_now" wH f fd)(h_Trail_steps:MetR P w K mg base "Trail" "steps" 1 0 ["self"] yA)(h_Trail_chosen:MetR P w K mg base "Trail" "chosen" 1 0 ["self"] xu)(h_Trail_asked:MetR P w K mg base "Trail" "asked" 1 0 ["self"] z0):DefR P w K mg base "_law_now" "Trail" 2 0 0 ["_law_trail"] zK:=by
 refine DefR.mk (k:=1) D_ VR rfl (fun _ _ _ _ _ _ us hl=>by obtain⟨_,rfl⟩:=lnz1 hl;rfl) (fun cdv A outer s H E hr=>?_)
 exact(zo (zO (yw (zb (yD h_Trail_asked (hr.mono (by decide)) (pv 0)) (zb (yD h_Trail_chosen (hr.mono (by decide)) (pv 0)) (zb (yD h_Trail_steps (hr.mono (by decide)) (pv 0)) zj))))))
noncomputable abbrev xU:Stmt:=wV (top 38) 9
theorem YV:zD ["self"] ["self"] (zi xU):=⟨rfl,rfl,rfl,by decide +kernel,rfl,by decide +kernel,by decide +kernel⟩
theorem Xe{C_Trail:Addr}(A_Trail:ClsAt K mg "Trail" C_Trail)(n_Trail_undone:NoAttr K C_Trail "undone")(n_Trail_done:NoAttr K C_Trail "done")(z_len:mg "len" = none){f:Addr}{fd:FuncData}(M_:uM K C_Trail "sizes" f)(D_:Fun K "sizes" "Trail.sizes" xU f fd):MetR P w K mg base "Trail" "sizes" 1 0 ["self"] zG:=by
 refine MetR.mk (k:=0) A_Trail M_ D_ YV rfl (fun _ _ _ _ _ _ us hl=>by obtain⟨_,rfl⟩:=lnz1 hl;rfl) (fun cdv A outer s H E hr=>?_)
 exact(zo (zO (yw (zb (u6 (pv 0) A_Trail.ns A_Trail.cls n_Trail_done rfl z_len (by decide +kernel)) (zb (u6 (pv 0) A_Trail.ns A_Trail.cls n_Trail_undone rfl z_len (by decide +kernel)) zj)))))
noncomputable abbrev xF:Stmt:=top 49
theorem sc__law_go_on:zD ["_law_script", "_law_trail", "_law_names_here", "_law_k"] ["_law_script", "_law_trail", "_law_names_here"] (zi xF):=⟨rfl,rfl,rfl,by decide +kernel,rfl,by decide +kernel,by decide +kernel⟩
theorem X3{f:Addr}{fd:FuncData}(D_:zV K mg "_law_go_on" xF f fd)(h__law_now:DefR P w K mg base "_law_now" "Trail" 2 0 0 ["_law_trail"] zK)(h__law_step:DefM P w K mg base "_law_step" "Trail" 9 2 3 ["_law_script", "_law_at", "_law_trail", "_law_names_here"] yP)(h_Trail_sizes:MetR P w K mg base "Trail" "sizes" 1 0 ["self"] zG)(z_range:mg "range" = none):DefM P w K mg base "_law_go_on" "Trail" 10 1 2 ["_law_script", "_law_trail", "_law_names_here"] xN:=by
 refine DefM.mk (k:=9) D_ sc__law_go_on rfl (fun _ _ _ _ _ _ us hl=>by obtain⟨_,_,_,rfl⟩:=lnz3 hl;rfl) (fun cdv A outer s H E hr=>?_)
 exact(zn (xZ PassesOwn.never rfl (xc rfl z_range (zb zm zj)) (yt sc__law_go_on.nd rfl (Or.inl rfl)) (zo (wK (Zr h__law_step (hr.mono (by decide)) (uf (zc (pv 0)) (uf (zx zH zm (zx wD zm (zc (pv 3)))) (yL (pv 1) (zb (zc (pv 2)) zj)))) (zh (zh zp)) (fun τ ds h=>by have:=(zh zp) τ ds h;lia))))) (zo (wB (yw (zb (xR h__law_now (hr.mono (by decide)) (yL (pv 1) zj) zp (fun τ ds h=>by have:=zp τ ds h;lia)) (zb (yD h_Trail_sizes (hr.mono (by decide)) (pv 1)) zj))))))
noncomputable abbrev wq:Stmt:=wV (top 38) 7
theorem XW:zD ["self"] ["self"] (zi wq):=⟨rfl,rfl,rfl,by decide +kernel,rfl,by decide +kernel,by decide +kernel⟩
theorem X8{C_Trail:Addr}(A_Trail:ClsAt K mg "Trail" C_Trail)(n_Trail_undone:NoAttr K C_Trail "undone")(n_Trail_done:NoAttr K C_Trail "done")(z_len:mg "len" = none){f:Addr}{fd:FuncData}(M_:uM K C_Trail "back" f)(D_:Fun K "back" "Trail.back" wq f fd):MetM P w K mg base "Trail" "back" 1 0 ["self"] yf:=by
 refine MetM.mk (k:=0) A_Trail M_ D_ XW rfl (fun _ _ _ _ _ _ us hl=>by obtain⟨_,rfl⟩:=lnz1 hl;rfl) (fun cdv A outer s H E hr=>?_)
 exact(zn (yW (zN (xI hr.units) (u6 (pv 0) A_Trail.ns A_Trail.cls n_Trail_done rfl z_len (by decide +kernel)) zm (zT _)) (zo ZS) zS) (zn (Y4 (pv 0) (pv 0) A_Trail.ns A_Trail.cls n_Trail_undone n_Trail_done (by decide +kernel) (by decide +kernel) (by decide +kernel)) (zo (wB (zP ye (YB (pv 0) A_Trail.ns A_Trail.cls n_Trail_undone (x0 zm) (by decide +kernel)) zm)))))
noncomputable abbrev xV:Stmt:=wV (top 38) 8
theorem YW:zD ["self"] ["self"] (zi xV):=⟨rfl,rfl,rfl,by decide +kernel,rfl,by decide +kernel,by decide +kernel⟩
theorem Xf{C_Trail:Addr}(A_Trail:ClsAt K mg "Trail" C_Trail)(n_Trail_done:NoAttr K C_Trail "done")(n_Trail_undone:NoAttr K C_Trail "undone")(z_len:mg "len" = none){f:Addr}{fd:FuncData}(M_:uM K C_Trail "forth" f)(D_:Fun K "forth" "Trail.forth" xV f fd):MetM P w K mg base "Trail" "forth" 1 0 ["self"] yo:=by
 refine MetM.mk (k:=0) A_Trail M_ D_ YW rfl (fun _ _ _ _ _ _ us hl=>by obtain⟨_,rfl⟩:=lnz1 hl;rfl) (fun cdv A outer s H E hr=>?_)
 exact(zn (yW (zN (xI hr.units) (u6 (pv 0) A_Trail.ns A_Trail.cls n_Trail_undone rfl z_len (by decide +kernel)) zm (zT _)) (zo ZS) zS) (zn (Y4 (pv 0) (pv 0) A_Trail.ns A_Trail.cls n_Trail_done n_Trail_undone (by decide +kernel) (by decide +kernel) (by decide +kernel)) (zo (wB (zP ye (YB (pv 0) A_Trail.ns A_Trail.cls n_Trail_done (x0 zm) (by decide +kernel)) zm)))))
noncomputable abbrev we:Stmt:=top 50
theorem sc__law_goes:zD ["_law_trail", "_law_rows", "_law_many", "_law_words", "_law_k"] ["_law_trail", "_law_rows"] (zi we):=⟨rfl,rfl,rfl,by decide +kernel,rfl,by decide +kernel,by decide +kernel⟩
theorem W9{f:Addr}{fd:FuncData}(D_:zV K mg "_law_goes" we f fd)(h__law_now:DefR P w K mg base "_law_now" "Trail" 2 0 0 ["_law_trail"] zK)(h_Trail_sizes:MetR P w K mg base "Trail" "sizes" 1 0 ["self"] zG)(h_Trail_forth:MetM P w K mg base "Trail" "forth" 1 0 ["self"] yo)(h_Trail_back:MetM P w K mg base "Trail" "back" 1 0 ["self"] yf)(h_Trail_steps:MetR P w K mg base "Trail" "steps" 1 0 ["self"] yA)(z_range:mg "range" = none)(z_len:mg "len" = none):DefM P w K mg base "_law_goes" "Trail" 3 0 1 ["_law_trail", "_law_rows"] wl:=by
 refine DefM.mk (k:=2) D_ sc__law_goes rfl (fun _ _ _ _ _ _ us hl=>by obtain⟨_,_,rfl⟩:=lnz2 hl;rfl) (fun cdv A outer s H E hr=>?_)
 exact(zn (z9 (i:=2) sc__law_goes.nd rfl (Or.inl rfl) (zx xH (zU xv rfl z_len PySem.boot_len (zb (zc (pv 1)) zj)) zm)) (zn (Ql (i:=3) sc__law_goes.nd rfl rfl rfl (tn:=["_law_step_here"]) (fr:=[]) (idx:=[]) rfl rfl trivial (ue 0) (PDI.h (jr (yD h_Trail_steps (hr.mono (by decide)) (pv 0)))) (fun s H C fp=>(yt (show List.Nodup (["_law_step_here"]:List Str) by decide +kernel) rfl (Or.inl rfl))) (fun s H C fp=>Zj) (fun s H C fp=>(zP ye (zc (pv 0)) zm))) (zn (xZ PassesOwn.never rfl (Y7 rfl z_range (zb (zx xH (zc (pv 2)) zm) (zb (x0 zm) (zb (x0 zm) zj)))) (yt sc__law_goes.nd rfl (Or.inl rfl)) (zn (Zm (W2 (Yx (Y5 (wI hr.units) (vE h_Trail_back (hr.mono (by decide)) (pv 0)) (zP ye (zc (pv 3)) (zc (pv 4))) (zT _)) (Zp (Yy (zN (wI hr.units) (xR h__law_now (hr.mono (by decide)) (yL (pv 0) zj) zp (fun τ ds h=>by have:=zp τ ds h;lia)) (zP ye (zc (pv 1)) (zc (pv 4))) (zT _)))))) (zo (wB vJ)) zS) (zo (yW (zN (wI hr.units) (yD h_Trail_sizes (hr.mono (by decide)) (pv 0)) (yw (zb (zc (pv 4)) (zb (zx xH (zc (pv 2)) (zc (pv 4))) zj))) (zT _)) (zo (wB vJ)) zS)))) (zn (xZ PassesOwn.never rfl (UM rfl z_range (zb zm (zb (zx zH (zc (pv 2)) zm) zj))) (yt sc__law_goes.nd rfl (Or.inl rfl)) (zn (Zm (W2 (Yx (Y5 (wI hr.units) (vE h_Trail_forth (hr.mono (by decide)) (pv 0)) (zP ye (zc (pv 3)) (zx xH (zc (pv 4)) zm)) (zT _)) (Zp (Yy (zN (wI hr.units) (xR h__law_now (hr.mono (by decide)) (yL (pv 0) zj) zp (fun τ ds h=>by have:=zp τ ds h;lia)) (zP ye (zc (pv 1)) (zc (pv 4))) (zT _)))))) (zo (wB vJ)) zS) (zo (yW (zN (wI hr.units) (yD h_Trail_sizes (hr.mono (by decide)) (pv 0)) (yw (zb (zc (pv 4)) (zb (zx xH (zc (pv 2)) (zc (pv 4))) zj))) (zT _)) (zo (wB vJ)) zS)))) (zo (wB vJ))))))
noncomputable abbrev wm:Stmt:=wV (top 38) 10
theorem sc_Trail_twin:zD ["self", "other"] ["self"] (zi wm):=⟨rfl,rfl,rfl,by decide +kernel,rfl,by decide +kernel,by decide +kernel⟩
theorem X5{C_Trail:Addr}(A_Trail:ClsAt K mg "Trail" C_Trail)(n_Trail_undone:NoAttr K C_Trail "undone")(n_Trail_done:NoAttr K C_Trail "done")(n_Trail_names:NoAttr K C_Trail "names")(c_Trail:ClsM P w K mg base "Trail" 1 1 ["self", "names"] ya)(z_list:mg "list" = none){f:Addr}{fd:FuncData}(M_:uM K C_Trail "twin" f)(D_:Fun K "twin" "Trail.twin" wm f fd):MetO P w K mg base "Trail" "twin" 3 0 ["self"] "Trail" yK:=by
 refine MetO.mk (k:=2) A_Trail M_ D_ sc_Trail_twin rfl (fun _ _ _ _ _ _ us hl=>by obtain⟨_,rfl⟩:=lnz1 hl;rfl) (fun cdv A outer s H E hr=>?_)
 exact(zn (VY (i:=1) c_Trail (hr.mono (by decide)) rfl (zb (W3 (pv 0) A_Trail.ns A_Trail.cls n_Trail_names (by decide +kernel)) zj) (zh zp) sc_Trail_twin.nd rfl (Or.inl rfl)) (zn (Zn (pv 1) A_Trail.ns A_Trail.cls n_Trail_done (Wr (pv 0) A_Trail.ns A_Trail.cls n_Trail_done rfl z_list (by decide +kernel)) (by decide +kernel)) (zn (Zn (pv 1) A_Trail.ns A_Trail.cls n_Trail_undone (Wr (pv 0) A_Trail.ns A_Trail.cls n_Trail_undone rfl z_list (by decide +kernel)) (by decide +kernel)) (zo (GH (c := "Trail") (pv 1))))))
noncomputable abbrev Zb:Stmt:=top 51
theorem sc_law:zD ["_law_script", "_law_names_here", "_law_trail", "_law_rows", "_law_k", "_law_many", "_law_back", "_law_turn", "_law_here", "_law_twin", "_law_third", "_law_there"] ["_law_script"] (zi Zb):=⟨rfl,rfl,rfl,by decide +kernel,rfl,by decide +kernel,by decide +kernel⟩
theorem zd9{f:Addr}{fd:FuncData}(A_:Fun K "law" "law" Zb f fd)(h__law_now:DefR P w K mg base "_law_now" "Trail" 2 0 0 ["_law_trail"] zK)(h__law_go_on:DefM P w K mg base "_law_go_on" "Trail" 10 1 2 ["_law_script", "_law_trail", "_law_names_here"] xN)(h__law_goes:DefM P w K mg base "_law_goes" "Trail" 3 0 1 ["_law_trail", "_law_rows"] wl)(h__law_step:DefM P w K mg base "_law_step" "Trail" 9 2 3 ["_law_script", "_law_at", "_law_trail", "_law_names_here"] yP)(h_Trail_twin:MetO P w K mg base "Trail" "twin" 3 0 ["self"] "Trail" yK)(h_Trail_sizes:MetR P w K mg base "Trail" "sizes" 1 0 ["self"] zG)(h_Trail_back:MetM P w K mg base "Trail" "back" 1 0 ["self"] yf)(h_Trail_forth:MetM P w K mg base "Trail" "forth" 1 0 ["self"] yo)(c_Trail:ClsM P w K mg base "Trail" 1 1 ["self", "names"] ya)(h__law_drawn:DefOk P w K mg base "_law_drawn" 2 3 ["_law_script", "_law_k", "_law_many"] zq)(h__law_names:DefOk P w K mg base "_law_names" 4 3 ["_law_script", "_law_at", "_law_most"] xl)(z_range:mg "range" = none)(z_len:mg "len" = none):FnOk P w K mg base CX0 11 f fd ["_law_script"] (spD K 1 JK):=by
 refine fnD (k:=10) A_ sc_law rfl fun cdv A outer s H E hr=>?_
 exact(zn (z9 (i:=1) sc_law.nd rfl (Or.inl rfl) (zI h__law_names (hr.mono (by decide)) (zb (zc (pv 0)) (zb zm (zb zm zj))) (zh (zh (zh zp))))) (zn (VY (i:=2) c_Trail (hr.mono (by decide)) rfl (zb (zc (pv 1)) zj) (zh zp) sc_law.nd rfl (Or.inl rfl)) (zn (u0 (i:=3) sc_law.nd rfl (Or.inl rfl) (vS (zb (xR h__law_now (hr.mono (by decide)) (yL (pv 2) zj) zp (fun τ ds h=>by have:=zp τ ds h;lia)) zj))) (zn (xZ PassesOwn.never rfl (xc rfl z_range (zb (zx zH zm (zI h__law_drawn (hr.mono (by decide)) (zb (zc (pv 0)) (zb zm (zb zm zj))) (zh (zh (zh zp))))) zj)) (yt sc_law.nd rfl (Or.inl rfl)) (zn (wK (Zr h__law_step (hr.mono (by decide)) (uf (zc (pv 0)) (uf (zx zH zm (zx wD zm (zc (pv 4)))) (yL (pv 2) (zb (zc (pv 1)) zj)))) (zh (zh zp)) (fun τ ds h=>by have:=(zh zp) τ ds h;lia))) (zo (Zo (pv 3) (xR h__law_now (hr.mono (by decide)) (yL (pv 2) zj) zp (fun τ ds h=>by have:=zp τ ds h;lia)))))) (zn (z9 (i:=5) sc_law.nd rfl (Or.inl rfl) (zx xH (Zs (pv 3) rfl z_len) zm)) (GF (zn (Zm (W2 (Yx (Yy (zN (wI hr.units) (yD h_Trail_sizes (hr.mono (by decide)) (pv 2)) (yw (zb (zc (pv 5)) (zb zm zj))) (zT _))) (Zp (GL (GK (Zr h__law_goes (hr.mono (by decide)) (yL (pv 2) (zb (zc (pv 3)) zj)) zp (fun τ ds h=>by have:=(zh zp) τ ds h;lia))))))) (zo (zO vJ)) zS) (zn (z9 (i:=6) sc_law.nd rfl (Or.inl rfl) (zx zH zm (zI h__law_drawn (hr.mono (by decide)) (zb (zc (pv 0)) (zb zm (zb (zc (pv 5)) zj))) (zh (zh (zh zp)))))) (zn (xZ PassesOwn.never rfl (xc rfl z_range (zb (zc (pv 6)) zj)) (yt sc_law.nd rfl (Or.inl rfl)) (zo (wK (vE h_Trail_back (hr.mono (by decide)) (pv 2))))) (zn (z9 (i:=8) sc_law.nd rfl (Or.inl rfl) (yw (zb (xR h__law_now (hr.mono (by decide)) (yL (pv 2) zj) zp (fun τ ds h=>by have:=zp τ ds h;lia)) (zb (yD h_Trail_sizes (hr.mono (by decide)) (pv 2)) zj)))) (zn (VX (i:=9) h_Trail_twin (hr.mono (by decide)) (pv 2) sc_law.nd rfl (Or.inl rfl)) (zn (VX (i:=10) h_Trail_twin (hr.mono (by decide)) (pv 9) sc_law.nd rfl (Or.inl rfl)) (zn (yW (zN (wI hr.units) (zc (pv 8)) (yw (zb (zP ye (zc (pv 3)) (zx xH (zc (pv 5)) (zc (pv 6)))) (zb (yw (zb (zx xH (zc (pv 5)) (zc (pv 6))) (zb (zc (pv 6)) zj))) zj))) (zT _)) (zo (zO vJ)) zS) (zn (GG (i:=11) sc_law.nd rfl (Or.inl rfl) (Zr h__law_go_on (hr.mono (by decide)) (uf (zc (pv 0)) (yL (pv 2) (zb (zc (pv 1)) zj))) (zh zp) (fun τ ds h=>by have:=(zh zp) τ ds h;lia))) (zn (yW (Zk (W1 (zN (wI hr.units) (zP ye (zc (pv 11)) zm) (yw (zb (zx zH (zx xH (zc (pv 5)) (zc (pv 6))) zm) (zb zm zj))) (zT _)) (Yw (zN (wI hr.units) (yw (zb (xR h__law_now (hr.mono (by decide)) (yL (pv 9) zj) zp (fun τ ds h=>by have:=zp τ ds h;lia)) (zb (yD h_Trail_sizes (hr.mono (by decide)) (pv 9)) zj))) (zc (pv 8)) (zT _))))) (zo (zO vJ)) zS) (zn (Zm (Y5 (wI hr.units) (Zr h__law_go_on (hr.mono (by decide)) (uf (zc (pv 0)) (yL (pv 9) (zb (zc (pv 1)) zj))) (zh zp) (fun τ ds h=>by have:=(zh zp) τ ds h;lia)) (zc (pv 11)) (zT _)) (zo (zO vJ)) zS) (zn (yW (zN (wI hr.units) (yw (zb (xR h__law_now (hr.mono (by decide)) (yL (pv 10) zj) zp (fun τ ds h=>by have:=zp τ ds h;lia)) (zb (yD h_Trail_sizes (hr.mono (by decide)) (pv 10)) zj))) (zc (pv 8)) (zT _)) (zo (zO vJ)) zS) (zn (xZ PassesOwn.never rfl (xc rfl z_range (zb (zc (pv 6)) zj)) (yt sc_law.nd rfl (Or.inl rfl)) (zo (wK (vE h_Trail_forth (hr.mono (by decide)) (pv 10))))) (zn (xZ PassesOwn.never rfl (xc rfl z_range (zb (zx zH (zx xH (zc (pv 5)) (zc (pv 6))) zm) zj)) (yt sc_law.nd rfl (Or.inl rfl)) (zo (Zm (W2 (Yx (Qm (wI hr.units) (vE h_Trail_back (hr.mono (by decide)) (pv 9)) (vE h_Trail_back (hr.mono (by decide)) (pv 2)) (zT _)) (Zp (Yy (zN (wI hr.units) (xR h__law_now (hr.mono (by decide)) (yL (pv 9) zj) zp (fun τ ds h=>by have:=zp τ ds h;lia)) (xR h__law_now (hr.mono (by decide)) (yL (pv 2) zj) zp (fun τ ds h=>by have:=zp τ ds h;lia)) (zT _)))))) (zo (zO vJ)) zS))) (zo (zO (W4 (vV (xI hr.units) (xR h__law_now (hr.mono (by decide)) (yL (pv 10) zj) zp (fun τ ds h=>by have:=zp τ ds h;lia)) (zP ye (zc (pv 3)) (x0 zm)) (zT _)) (W4 (vV (xI hr.units) (xR h__law_now (hr.mono (by decide)) (yL (pv 9) zj) zp (fun τ ds h=>by have:=zp τ ds h;lia)) (yw (zb wS (zb (vT zj) (zb (vT zj) zj)))) (zT _)) (Yz (vV (xI hr.units) (yD h_Trail_sizes (hr.mono (by decide)) (pv 10)) (yw (zb (zc (pv 5)) (zb zm zj))) (zT _))))))))))))))))))))))))))
end
set_option autoImplicit true in
set_option relaxedAutoImplicit true in
theorem all_mk{l:PySem.W.OpenLaw}{w:World}{K:Frag}{h:Heap}{mg:Str→Option Value}{fa:Addr}(X:K.In h)(G:h.Ns mainGlobals mg)(hfa:mg "law" = some (.ref fa))(hl:∀ns:List Int,ns.length≤63→JK [.scr ns]=.ok (.bl true))
  {f0 f1 f2 f3 f4 f5 f6 f7 f8 f9 f10 f11 f12 f13 f14 f15 f16 f17 f18 f19 f20 f21 f22 f23 f24 f25 f26 f27 f28 f29 f30 f31 f32 f33 f34 f35 f36 f37 f38 f39:Addr}
  {C_Trail:Addr}
  (ns_Trail:nsIn K mainGlobals "Trail" = some (some (.ref C_Trail)))
  (pg_Trail:plainGet K C_Trail Str.empty=true)
  (hd_Trail:hasDictIn K C_Trail=true)
  (po_Trail:plainOver K C_Trail=true)
  (sa_Trail:findIn K (.ref C_Trail) "__setattr__" = some (some (.builtin "object.__setattr__")))
  (mk_Trail:makesIn K C_Trail=true)
  (kc_Trail:keepIn K (.ref C_Trail)=true)
  (n_Trail_undone:findIn K (.ref C_Trail) "undone" = some none)
  (n_Trail_done:findIn K (.ref C_Trail) "done" = some none)
  (n_Trail_names:findIn K (.ref C_Trail) "names" = some none)
  (a0:nsIn K mainGlobals "_law_cell" = some (some (.ref f0))) (l0:K.lookup f0=some ⟨oc0,od0,.func (fnOf "_law_cell" "_law_cell" (zE wf) (zt wf) (zi wf) .none kV0 dc0 pm0 an0 cd0 ct0),sl0⟩) (c0:codeIn K cd0 "_law_cell" = true) (k0:keepIn K (.ref f0)=true)
  (a1:nsIn K mainGlobals "_law_drawn" = some (some (.ref f1))) (l1:K.lookup f1=some ⟨oc1,od1,.func (fnOf "_law_drawn" "_law_drawn" (zE xG) (zt xG) (zi xG) .none kV1 dc1 pm1 an1 cd1 ct1),sl1⟩) (c1:codeIn K cd1 "_law_drawn" = true) (k1:keepIn K (.ref f1)=true)
  (a2:nsIn K mainGlobals "_law_name" = some (some (.ref f2))) (l2:K.lookup f2=some ⟨oc2,od2,.func (fnOf "_law_name" "_law_name" (zE wc) (zt wc) (zi wc) .none kV2 dc2 pm2 an2 cd2 ct2),sl2⟩) (c2:codeIn K cd2 "_law_name" = true) (k2:keepIn K (.ref f2)=true)
  (a3:nsIn K mainGlobals "_law_names" = some (some (.ref f3))) (l3:K.lookup f3=some ⟨oc3,od3,.func (fnOf "_law_names" "_law_names" (zE xE) (zt xE) (zi xE) .none kV3 dc3 pm3 an3 cd3 ct3),sl3⟩) (c3:codeIn K cd3 "_law_names" = true) (k3:keepIn K (.ref f3)=true)
  (a4:findIn K (.ref C_Trail) "__init__" = some (some (.ref f4))) (i4:isFn K (.ref f4)=true) (l4:K.lookup f4=some ⟨oc4,od4,.func (fnOf "__init__" "Trail.__init__" (zE y4) (zt y4) (zi y4) .none kV4 dc4 pm4 an4 cd4 ct4),sl4⟩) (c4:codeIn K cd4 "Trail.__init__" = true) (k4:keepIn K (.ref f4)=true)
  (a5:nsIn K mainGlobals "in_order" = some (some (.ref f5))) (l5:K.lookup f5=some ⟨oc5,od5,.func (fnOf "in_order" "in_order" (zE vb) (zt vb) (zi vb) .none kV5 dc5 pm5 an5 (.ref cc5) ct5),sl5⟩) (c5:codeIn K (.ref cc5) "in_order" = true) (k5:keepIn K (.ref f5)=true) (tb5:PySem.W.codeHdIn K cc5 126=true)
  (a6:nsIn K mainGlobals "first_rows" = some (some (.ref f6))) (l6:K.lookup f6=some ⟨oc6,od6,.func (fnOf "first_rows" "first_rows" (zE xB) (zt xB) (zi xB) .none kV6 dc6 pm6 an6 cd6 ct6),sl6⟩) (c6:codeIn K cd6 "first_rows" = true) (k6:keepIn K (.ref f6)=true)
  (a7:nsIn K mainGlobals "beginning_points" = some (some (.ref f7))) (l7:K.lookup f7=some ⟨oc7,od7,.func (fnOf "beginning_points" "beginning_points" (zE yq) (zt yq) (zi yq) .none kV7 dc7 pm7 an7 cd7 ct7),sl7⟩) (c7:codeIn K cd7 "beginning_points" = true) (k7:keepIn K (.ref f7)=true)
  (a8:nsIn K mainGlobals "own_points" = some (some (.ref f8))) (l8:K.lookup f8=some ⟨oc8,od8,.func (fnOf "own_points" "own_points" (zE xA) (zt xA) (zi xA) .none kV8 dc8 pm8 an8 cd8 ct8),sl8⟩) (c8:codeIn K cd8 "own_points" = true) (k8:keepIn K (.ref f8)=true)
  (a9:nsIn K mainGlobals "meets" = some (some (.ref f9))) (l9:K.lookup f9=some ⟨oc9,od9,.func (fnOf "meets" "meets" (zE ur) (zt ur) (zi ur) .none kV9 dc9 pm9 an9 cd9 ct9),sl9⟩) (c9:codeIn K cd9 "meets" = true) (k9:keepIn K (.ref f9)=true)
  (a10:nsIn K mainGlobals "last_sign_tails" = some (some (.ref f10))) (l10:K.lookup f10=some ⟨oc10,od10,.func (fnOf "last_sign_tails" "last_sign_tails" (zE yB) (zt yB) (zi yB) .none kV10 dc10 pm10 an10 cd10 ct10),sl10⟩) (c10:codeIn K cd10 "last_sign_tails" = true) (k10:keepIn K (.ref f10)=true)
  (a11:nsIn K mainGlobals "first_of_most" = some (some (.ref f11))) (l11:K.lookup f11=some ⟨oc11,od11,.func (fnOf "first_of_most" "first_of_most" (zE yV) (zt yV) (zi yV) .none kV11 dc11 pm11 an11 cd11 ct11),sl11⟩) (c11:codeIn K cd11 "first_of_most" = true) (k11:keepIn K (.ref f11)=true)
  (a12:nsIn K mainGlobals "link_points" = some (some (.ref f12))) (l12:K.lookup f12=some ⟨oc12,od12,.func (fnOf "link_points" "link_points" (zE xn) (zt xn) (zi xn) .none kV12 dc12 pm12 an12 cd12 ct12),sl12⟩) (c12:codeIn K cd12 "link_points" = true) (k12:keepIn K (.ref f12)=true)
  (a13:nsIn K mainGlobals "linked_tails" = some (some (.ref f13))) (l13:K.lookup f13=some ⟨oc13,od13,.func (fnOf "linked_tails" "linked_tails" (zE xa) (zt xa) (zi xa) .none kV13 dc13 pm13 an13 cd13 ct13),sl13⟩) (c13:codeIn K cd13 "linked_tails" = true) (k13:keepIn K (.ref f13)=true)
  (a14:nsIn K mainGlobals "longer_tails" = some (some (.ref f14))) (l14:K.lookup f14=some ⟨oc14,od14,.func (fnOf "longer_tails" "longer_tails" (zE y9) (zt y9) (zi y9) .none kV14 dc14 pm14 an14 cd14 ct14),sl14⟩) (c14:codeIn K cd14 "longer_tails" = true) (k14:keepIn K (.ref f14)=true)
  (a15:nsIn K mainGlobals "lead_points" = some (some (.ref f15))) (l15:K.lookup f15=some ⟨oc15,od15,.func (fnOf "lead_points" "lead_points" (zE xp) (zt xp) (zi xp) .none kV15 dc15 pm15 an15 cd15 ct15),sl15⟩) (c15:codeIn K cd15 "lead_points" = true) (k15:keepIn K (.ref f15)=true)
  (a16:nsIn K mainGlobals "best" = some (some (.ref f16))) (l16:K.lookup f16=some ⟨oc16,od16,.func (fnOf "best" "best" (zE jS) (zt jS) (zi jS) .none kV16 dc16 pm16 an16 cd16 ct16),sl16⟩) (c16:codeIn K cd16 "best" = true) (k16:keepIn K (.ref f16)=true)
  (a17:nsIn K mainGlobals "fitting_rows" = some (some (.ref f17))) (l17:K.lookup f17=some ⟨oc17,od17,.func (fnOf "fitting_rows" "fitting_rows" (zE xb) (zt xb) (zi xb) .none kV17 dc17 pm17 an17 cd17 ct17),sl17⟩) (c17:codeIn K cd17 "fitting_rows" = true) (k17:keepIn K (.ref f17)=true)
  (a18:nsIn K mainGlobals "all_rows" = some (some (.ref f18))) (l18:K.lookup f18=some ⟨oc18,od18,.func (fnOf "all_rows" "all_rows" (zE wG) (zt wG) (zi wG) .none kV18 dc18 pm18 an18 cd18 ct18),sl18⟩) (c18:codeIn K cd18 "all_rows" = true) (k18:keepIn K (.ref f18)=true)
  (a19:nsIn K mainGlobals "finds" = some (some (.ref f19))) (l19:K.lookup f19=some ⟨oc19,od19,.func (fnOf "finds" "finds" (zE ut) (zt ut) (zi ut) .none kV19 dc19 pm19 an19 cd19 ct19),sl19⟩) (c19:codeIn K cd19 "finds" = true) (k19:keepIn K (.ref f19)=true)
  (a20:nsIn K mainGlobals "_law_mark" = some (some (.ref f20))) (l20:K.lookup f20=some ⟨oc20,od20,.func (fnOf "_law_mark" "_law_mark" (zE wd) (zt wd) (zi wd) .none kV20 dc20 pm20 an20 cd20 ct20),sl20⟩) (c20:codeIn K cd20 "_law_mark" = true) (k20:keepIn K (.ref f20)=true)
  (a21:nsIn K mainGlobals "_law_query" = some (some (.ref f21))) (l21:K.lookup f21=some ⟨oc21,od21,.func (fnOf "_law_query" "_law_query" (zE xD) (zt xD) (zi xD) .none kV21 dc21 pm21 an21 cd21 ct21),sl21⟩) (c21:codeIn K cd21 "_law_query" = true) (k21:keepIn K (.ref f21)=true)
  (a22:nsIn K mainGlobals "_law_typed" = some (some (.ref f22))) (l22:K.lookup f22=some ⟨oc22,od22,.func (fnOf "_law_typed" "_law_typed" (zE xC) (zt xC) (zi xC) .none kV22 dc22 pm22 an22 cd22 ct22),sl22⟩) (c22:codeIn K cd22 "_law_typed" = true) (k22:keepIn K (.ref f22)=true)
  (a23:findIn K (.ref C_Trail) "asked" = some (some (.ref f23))) (i23:isFn K (.ref f23)=true) (l23:K.lookup f23=some ⟨oc23,od23,.func (fnOf "asked" "Trail.asked" (zE xW) (zt xW) (zi xW) .none kV23 dc23 pm23 an23 cd23 ct23),sl23⟩) (c23:codeIn K cd23 "Trail.asked" = true) (k23:keepIn K (.ref f23)=true)
  (a24:findIn K (.ref C_Trail) "step" = some (some (.ref f24))) (i24:isFn K (.ref f24)=true) (l24:K.lookup f24=some ⟨oc24,od24,.func (fnOf "step" "Trail.step" (zE wn) (zt wn) (zi wn) .none kV24 dc24 pm24 an24 cd24 ct24),sl24⟩) (c24:codeIn K cd24 "Trail.step" = true) (k24:keepIn K (.ref f24)=true)
  (a25:findIn K (.ref C_Trail) "pick" = some (some (.ref f25))) (i25:isFn K (.ref f25)=true) (l25:K.lookup f25=some ⟨oc25,od25,.func (fnOf "pick" "Trail.pick" (zE wo) (zt wo) (zi wo) .none kV25 dc25 pm25 an25 cd25 ct25),sl25⟩) (c25:codeIn K cd25 "Trail.pick" = true) (k25:keepIn K (.ref f25)=true)
  (a26:nsIn K mainGlobals "earliest_places" = some (some (.ref f26))) (l26:K.lookup f26=some ⟨oc26,od26,.func (fnOf "earliest_places" "earliest_places" (zE yC) (zt yC) (zi yC) .none kV26 dc26 pm26 an26 cd26 ct26),sl26⟩) (c26:codeIn K cd26 "earliest_places" = true) (k26:keepIn K (.ref f26)=true)
  (a27:nsIn K mainGlobals "fits" = some (some (.ref f27))) (l27:K.lookup f27=some ⟨oc27,od27,.func (fnOf "fits" "fits" (zE jR) (zt jR) (zi jR) .none kV27 dc27 pm27 an27 cd27 ct27),sl27⟩) (c27:codeIn K cd27 "fits" = true) (k27:keepIn K (.ref f27)=true)
  (a28:findIn K (.ref C_Trail) "ask" = some (some (.ref f28))) (i28:isFn K (.ref f28)=true) (l28:K.lookup f28=some ⟨oc28,od28,.func (fnOf "ask" "Trail.ask" (zE wJ) (zt wJ) (zi wJ) .none kV28 dc28 pm28 an28 cd28 ct28),sl28⟩) (c28:codeIn K cd28 "Trail.ask" = true) (k28:keepIn K (.ref f28)=true)
  (a29:nsIn K mainGlobals "_law_step" = some (some (.ref f29))) (l29:K.lookup f29=some ⟨oc29,od29,.func (fnOf "_law_step" "_law_step" (zE wb) (zt wb) (zi wb) .none kV29 dc29 pm29 an29 cd29 ct29),sl29⟩) (c29:codeIn K cd29 "_law_step" = true) (k29:keepIn K (.ref f29)=true)
  (a30:findIn K (.ref C_Trail) "chosen" = some (some (.ref f30))) (i30:isFn K (.ref f30)=true) (l30:K.lookup f30=some ⟨oc30,od30,.func (fnOf "chosen" "Trail.chosen" (zE xr) (zt xr) (zi xr) .none kV30 dc30 pm30 an30 cd30 ct30),sl30⟩) (c30:codeIn K cd30 "Trail.chosen" = true) (k30:keepIn K (.ref f30)=true)
  (a31:findIn K (.ref C_Trail) "steps" = some (some (.ref f31))) (i31:isFn K (.ref f31)=true) (l31:K.lookup f31=some ⟨oc31,od31,.func (fnOf "steps" "Trail.steps" (zE xT) (zt xT) (zi xT) .none kV31 dc31 pm31 an31 cd31 ct31),sl31⟩) (c31:codeIn K cd31 "Trail.steps" = true) (k31:keepIn K (.ref f31)=true)
  (a32:nsIn K mainGlobals "_law_now" = some (some (.ref f32))) (l32:K.lookup f32=some ⟨oc32,od32,.func (fnOf "_law_now" "_law_now" (zE wH) (zt wH) (zi wH) .none kV32 dc32 pm32 an32 cd32 ct32),sl32⟩) (c32:codeIn K cd32 "_law_now" = true) (k32:keepIn K (.ref f32)=true)
  (a33:findIn K (.ref C_Trail) "sizes" = some (some (.ref f33))) (i33:isFn K (.ref f33)=true) (l33:K.lookup f33=some ⟨oc33,od33,.func (fnOf "sizes" "Trail.sizes" (zE xU) (zt xU) (zi xU) .none kV33 dc33 pm33 an33 cd33 ct33),sl33⟩) (c33:codeIn K cd33 "Trail.sizes" = true) (k33:keepIn K (.ref f33)=true)
  (a34:nsIn K mainGlobals "_law_go_on" = some (some (.ref f34))) (l34:K.lookup f34=some ⟨oc34,od34,.func (fnOf "_law_go_on" "_law_go_on" (zE xF) (zt xF) (zi xF) .none kV34 dc34 pm34 an34 cd34 ct34),sl34⟩) (c34:codeIn K cd34 "_law_go_on" = true) (k34:keepIn K (.ref f34)=true)
  (a35:findIn K (.ref C_Trail) "back" = some (some (.ref f35))) (i35:isFn K (.ref f35)=true) (l35:K.lookup f35=some ⟨oc35,od35,.func (fnOf "back" "Trail.back" (zE wq) (zt wq) (zi wq) .none kV35 dc35 pm35 an35 cd35 ct35),sl35⟩) (c35:codeIn K cd35 "Trail.back" = true) (k35:keepIn K (.ref f35)=true)
  (a36:findIn K (.ref C_Trail) "forth" = some (some (.ref f36))) (i36:isFn K (.ref f36)=true) (l36:K.lookup f36=some ⟨oc36,od36,.func (fnOf "forth" "Trail.forth" (zE xV) (zt xV) (zi xV) .none kV36 dc36 pm36 an36 cd36 ct36),sl36⟩) (c36:codeIn K cd36 "Trail.forth" = true) (k36:keepIn K (.ref f36)=true)
  (a37:nsIn K mainGlobals "_law_goes" = some (some (.ref f37))) (l37:K.lookup f37=some ⟨oc37,od37,.func (fnOf "_law_goes" "_law_goes" (zE we) (zt we) (zi we) .none kV37 dc37 pm37 an37 cd37 ct37),sl37⟩) (c37:codeIn K cd37 "_law_goes" = true) (k37:keepIn K (.ref f37)=true)
  (a38:findIn K (.ref C_Trail) "twin" = some (some (.ref f38))) (i38:isFn K (.ref f38)=true) (l38:K.lookup f38=some ⟨oc38,od38,.func (fnOf "twin" "Trail.twin" (zE wm) (zt wm) (zi wm) .none kV38 dc38 pm38 an38 cd38 ct38),sl38⟩) (c38:codeIn K cd38 "Trail.twin" = true) (k38:keepIn K (.ref f38)=true)
  (a39:nsIn K mainGlobals "law" = some (some (.ref f39))) (l39:K.lookup f39=some ⟨oc39,od39,.func (fnOf "law" "law" (zE Zb) (zt Zb) (zi Zb) .none kV39 dc39 pm39 an39 cd39 ct39),sl39⟩) (c39:codeIn K cd39 "law" = true) (k39:keepIn K (.ref f39)=true)
  (g_FIGURES:nsIn K mainGlobals "FIGURES" = some (some (.str "0123456789" t_FIGURES)))
  (g_SMALL:nsIn K mainGlobals "SMALL" = some (some (.str "abcdefghijklmnopqrstuvwxyz" t_SMALL)))
  (g_GREAT:nsIn K mainGlobals "GREAT" = some (some (.str "ABCDEFGHIJKLMNOPQRSTUVWXYZ" t_GREAT)))
  (g_AT_GREAT:nsIn K mainGlobals "AT_GREAT" = some (some (.int 5 t_AT_GREAT)))
  (g_MARKS:nsIn K mainGlobals "MARKS" = some (some (.str "_-./" t_MARKS)))
  (g_BEHIND_MARK:nsIn K mainGlobals "BEHIND_MARK" = some (some (.int 6 t_BEHIND_MARK)))
  (g_AT_BEGINNING:nsIn K mainGlobals "AT_BEGINNING" = some (some (.int 8 t_AT_BEGINNING)))
  (g_EACH_PLACE:nsIn K mainGlobals "EACH_PLACE" = some (some (.int 10 t_EACH_PLACE)))
  (g_SAME_SIGN:nsIn K mainGlobals "SAME_SIGN" = some (some (.int 1 t_SAME_SIGN)))
  (g_MOST_BETWEEN:nsIn K mainGlobals "MOST_BETWEEN" = some (some (.int 5 t_MOST_BETWEEN)))
  (g_BESIDE:nsIn K mainGlobals "BESIDE" = some (some (.int 7 t_BESIDE)))
  (g_MOST_AHEAD:nsIn K mainGlobals "MOST_AHEAD" = some (some (.int 3 t_MOST_AHEAD)))
  (g_ASK:nsIn K mainGlobals "ASK" = some (some (.str "ask" t_ASK)))
  (g_PICK:nsIn K mainGlobals "PICK" = some (some (.str "pick" t_PICK)))
  (z_len:nsIn K mainGlobals "len" = some none)
  (z_range:nsIn K mainGlobals "range" = some none)
  (z_list:nsIn K mainGlobals "list" = some none)
  (z_sorted:nsIn K mainGlobals "sorted" = some none)
  (z_max:nsIn K mainGlobals "max" = some none)
  (z_min:nsIn K mainGlobals "min" = some none)
  : M7 K∧∃fd:FuncData,(∀(s:Shared) (v:Value),BindsTo s fd ⟨[v],[]⟩ [("_law_script", v)])∧∀base:Heap,K.In base→base.Ns mainGlobals mg→BM mg base→FnOk l.prog w K mg base CX0 11 fa fd ["_law_script"] (Jq K):=by
 have e:=hfa.symm.trans (mg_of X G a39)
 cases e
 refine⟨fun r hr=>?_,?_⟩
 ·rcases hr with _|⟨_,hr⟩
  ·exact⟨_,tb5⟩
  ·cases hr
 have A_Trail:ClsAt K mg "Trail" C_Trail:=⟨ns_Trail,⟨pg_Trail,hd_Trail,po_Trail,sa_Trail⟩,mg_of X G ns_Trail⟩
 have D0:zV K mg "_law_cell" wf f0 _:=⟨z7 (st:=wf) l0 c0 k0,mg_of X G a0⟩
 have D1:zV K mg "_law_drawn" xG f1 _:=⟨z7 (st:=xG) l1 c1 k1,mg_of X G a1⟩
 have D2:zV K mg "_law_name" wc f2 _:=⟨z7 (st:=wc) l2 c2 k2,mg_of X G a2⟩
 have D3:zV K mg "_law_names" xE f3 _:=⟨z7 (st:=xE) l3 c3 k3,mg_of X G a3⟩
 have D5:Jh K mg "in_order" vb f5 cc5 126:=⟨⟨_,_,_,_,_,_,_,_,l5⟩,c5,k5,mg_of X G a5,tb5⟩
 have D6:zV K mg "first_rows" xB f6 _:=⟨z7 (st:=xB) l6 c6 k6,mg_of X G a6⟩
 have D7:zV K mg "beginning_points" yq f7 _:=⟨z7 (st:=yq) l7 c7 k7,mg_of X G a7⟩
 have D8:zV K mg "own_points" xA f8 _:=⟨z7 (st:=xA) l8 c8 k8,mg_of X G a8⟩
 have D9:zV K mg "meets" ur f9 _:=⟨z7 (st:=ur) l9 c9 k9,mg_of X G a9⟩
 have D10:zV K mg "last_sign_tails" yB f10 _:=⟨z7 (st:=yB) l10 c10 k10,mg_of X G a10⟩
 have D11:zV K mg "first_of_most" yV f11 _:=⟨z7 (st:=yV) l11 c11 k11,mg_of X G a11⟩
 have D12:zV K mg "link_points" xn f12 _:=⟨z7 (st:=xn) l12 c12 k12,mg_of X G a12⟩
 have D13:zV K mg "linked_tails" xa f13 _:=⟨z7 (st:=xa) l13 c13 k13,mg_of X G a13⟩
 have D14:zV K mg "longer_tails" y9 f14 _:=⟨z7 (st:=y9) l14 c14 k14,mg_of X G a14⟩
 have D15:zV K mg "lead_points" xp f15 _:=⟨z7 (st:=xp) l15 c15 k15,mg_of X G a15⟩
 have D16:zV K mg "best" jS f16 _:=⟨z7 (st:=jS) l16 c16 k16,mg_of X G a16⟩
 have D17:zV K mg "fitting_rows" xb f17 _:=⟨z7 (st:=xb) l17 c17 k17,mg_of X G a17⟩
 have D18:zV K mg "all_rows" wG f18 _:=⟨z7 (st:=wG) l18 c18 k18,mg_of X G a18⟩
 have D19:zV K mg "finds" ut f19 _:=⟨z7 (st:=ut) l19 c19 k19,mg_of X G a19⟩
 have D20:zV K mg "_law_mark" wd f20 _:=⟨z7 (st:=wd) l20 c20 k20,mg_of X G a20⟩
 have D21:zV K mg "_law_query" xD f21 _:=⟨z7 (st:=xD) l21 c21 k21,mg_of X G a21⟩
 have D22:zV K mg "_law_typed" xC f22 _:=⟨z7 (st:=xC) l22 c22 k22,mg_of X G a22⟩
 have D26:zV K mg "earliest_places" yC f26 _:=⟨z7 (st:=yC) l26 c26 k26,mg_of X G a26⟩
 have D27:zV K mg "fits" jR f27 _:=⟨z7 (st:=jR) l27 c27 k27,mg_of X G a27⟩
 have D29:zV K mg "_law_step" wb f29 _:=⟨z7 (st:=wb) l29 c29 k29,mg_of X G a29⟩
 have D32:zV K mg "_law_now" wH f32 _:=⟨z7 (st:=wH) l32 c32 k32,mg_of X G a32⟩
 have D34:zV K mg "_law_go_on" xF f34 _:=⟨z7 (st:=xF) l34 c34 k34,mg_of X G a34⟩
 have D37:zV K mg "_law_goes" we f37 _:=⟨z7 (st:=we) l37 c37 k37,mg_of X G a37⟩
 refine⟨fnOf "law" "law" (zE Zb) (zt Zb) (zi Zb) .none kV39 dc39 pm39 an39 cd39 ct39,fun s v=>.of_eq rfl,fun base _ _ bm=>?_⟩
 have h__law_cell:DefOk l.prog w K mg base "_law_cell" 1 2 ["_law_script", "_law_k"] wL:=Va D0 (mg_none_of X G z_len)
 have h__law_drawn:DefOk l.prog w K mg base "_law_drawn" 2 3 ["_law_script", "_law_k", "_law_many"] zq:=X4 D1 h__law_cell
 have h__law_name:DefOk l.prog w K mg base "_law_name" 3 2 ["_law_script", "_law_at"] xx:=W7 D2 h__law_drawn (mg_none_of X G z_range)
 have h__law_names:DefOk l.prog w K mg base "_law_names" 4 3 ["_law_script", "_law_at", "_law_most"] xl:=X2 D3 h__law_drawn h__law_name (mg_none_of X G z_len) (mg_none_of X G z_range)
 have c_Trail:=Zv (P:=l.prog) (w:=w) (base:=base) A_Trail n_Trail_undone n_Trail_done n_Trail_names (mg_none_of X G z_list) ⟨mk_Trail,a4,i4,kc_Trail⟩ (z7 (st:=y4) l4 c4 k4)
 have h_in_order:DefOk l.prog w K mg base "in_order" 4 2 ["names", "rows"] wj:=V2 D5 bm (mg_none_of X G z_len) (mg_none_of X G z_sorted)
 have h_first_rows:DefOk l.prog w K mg base "first_rows" 5 3 ["names", "rows", "many"] xk:=XY D6 h_in_order (mg_none_of X G z_max)
 have h_beginning_points:DefOk l.prog w K mg base "beginning_points" 1 2 ["name", "place"] yH:=jF D7 (mg_of X G g_FIGURES) (mg_of X G g_SMALL) (mg_of X G g_GREAT) (mg_of X G g_AT_GREAT) (mg_of X G g_MARKS) (mg_of X G g_BEHIND_MARK) (mg_of X G g_AT_BEGINNING)
 have h_own_points:DefOk l.prog w K mg base "own_points" 2 3 ["sign", "name", "place"] yE:=XX D8 h_beginning_points (mg_of X G g_EACH_PLACE) (mg_of X G g_SAME_SIGN)
 have h_meets:DefOk l.prog w K mg base "meets" 1 2 ["sign", "other"] x6:=GX D9 (mg_of X G g_SMALL)
 have h_last_sign_tails:DefOk l.prog w K mg base "last_sign_tails" 3 2 ["sign", "name"] yk:=jU D10 h_meets h_own_points (mg_none_of X G z_len) (mg_none_of X G z_range)
 have h_first_of_most:DefOk l.prog w K mg base "first_of_most" 1 1 ["tails"] zY:=ZX D11
 have h_link_points:DefOk l.prog w K mg base "link_points" 1 2 ["ahead", "place"] xq:=Xb D12 (mg_of X G g_MOST_BETWEEN) (mg_of X G g_BESIDE) (mg_none_of X G z_min)
 have h_linked_tails:DefOk l.prog w K mg base "linked_tails" 2 2 ["place", "tails"] yN:=Yp D13 h_link_points
 have h_longer_tails:DefOk l.prog w K mg base "longer_tails" 3 3 ["sign", "name", "tails"] xf:=Yo D14 h_meets h_own_points h_linked_tails h_first_of_most (mg_none_of X G z_len) (mg_none_of X G z_range)
 have h_lead_points:DefOk l.prog w K mg base "lead_points" 1 1 ["place"] y0:=Xc D15 (mg_of X G g_MOST_AHEAD) (mg_none_of X G z_min)
 have h_best:DefOk l.prog w K mg base "best" 4 2 ["query", "name"] v7:=T6 D16 h_lead_points h_first_of_most h_longer_tails h_last_sign_tails (mg_none_of X G z_len) (mg_none_of X G z_range)
 have h_fitting_rows:DefOk l.prog w K mg base "fitting_rows" 5 3 ["names", "query", "numbers"] yO:=Yq D17 h_best
 have h_all_rows:DefOk l.prog w K mg base "all_rows" 6 2 ["names", "query"] wk:=V3 D18 h_fitting_rows (mg_none_of X G z_len) (mg_none_of X G z_list) (mg_none_of X G z_range)
 have h_finds:DefOk l.prog w K mg base "finds" 7 3 ["names", "query", "many"] wt:=GY D19 h_all_rows h_first_rows
 have h__law_mark:DefOk l.prog w K mg base "_law_mark" 1 1 ["_law_sign"] xz:=W8 D20
 have h__law_query:DefOk l.prog w K mg base "_law_query" 3 4 ["_law_script", "_law_at", "_law_name_here", "_law_most"] xM:=X1 D21 h__law_drawn h__law_mark (mg_none_of X G z_range) (mg_none_of X G z_len) (mg_none_of X G z_min)
 have h__law_typed:DefOk l.prog w K mg base "_law_typed" 4 3 ["_law_script", "_law_at", "_law_names_here"] xL:=XZ D22 h__law_drawn h__law_query (mg_none_of X G z_len)
 have h_Trail_asked:=Xg (P:=l.prog) (w:=w) (base:=base) A_Trail n_Trail_done (mg_of X G g_ASK) (mg_none_of X G z_len) ⟨a23,i23,k23⟩ (z7 (st:=xW) l23 c23 k23)
 have h_Trail_step:=X6 (P:=l.prog) (w:=w) (base:=base) A_Trail n_Trail_undone n_Trail_done ⟨a24,i24,k24⟩ (z7 (st:=wn) l24 c24 k24)
 have h_Trail_pick:=X7 (P:=l.prog) (w:=w) (base:=base) A_Trail n_Trail_names h_Trail_step h_Trail_asked h_finds (mg_of X G g_PICK) (mg_none_of X G z_len) ⟨a25,i25,k25⟩ (z7 (st:=wo) l25 c25 k25)
 have h_earliest_places:DefOk l.prog w K mg base "earliest_places" 2 2 ["query", "name"] yT:=jV D26 h_meets (mg_none_of X G z_len) (mg_none_of X G z_range)
 have h_fits:DefOk l.prog w K mg base "fits" 3 2 ["query", "name"] u8:=T5 D27 h_earliest_places (mg_none_of X G z_len)
 have h_Trail_ask:=Vb (P:=l.prog) (w:=w) (base:=base) A_Trail n_Trail_names h_Trail_step h_fits (mg_of X G g_ASK) (mg_none_of X G z_len) ⟨a28,i28,k28⟩ (z7 (st:=wJ) l28 c28 k28)
 have h__law_step:=W6 (P:=l.prog) (w:=w) (base:=base) D29 h_Trail_pick h_Trail_ask h_Trail_asked h__law_drawn h__law_typed h_finds (mg_none_of X G z_len)
 have h_Trail_chosen:=Yr (P:=l.prog) (w:=w) (base:=base) A_Trail n_Trail_done (mg_of X G g_ASK) (mg_of X G g_PICK) ⟨a30,i30,k30⟩ (z7 (st:=xr) l30 c30 k30)
 have h_Trail_steps:=Xd (P:=l.prog) (w:=w) (base:=base) A_Trail n_Trail_done ⟨a31,i31,k31⟩ (z7 (st:=xT) l31 c31 k31)
 have h__law_now:=V4 (P:=l.prog) (w:=w) (base:=base) D32 h_Trail_steps h_Trail_chosen h_Trail_asked
 have h_Trail_sizes:=Xe (P:=l.prog) (w:=w) (base:=base) A_Trail n_Trail_undone n_Trail_done (mg_none_of X G z_len) ⟨a33,i33,k33⟩ (z7 (st:=xU) l33 c33 k33)
 have h__law_go_on:=X3 (P:=l.prog) (w:=w) (base:=base) D34 h__law_now h__law_step h_Trail_sizes (mg_none_of X G z_range)
 have h_Trail_back:=X8 (P:=l.prog) (w:=w) (base:=base) A_Trail n_Trail_undone n_Trail_done (mg_none_of X G z_len) ⟨a35,i35,k35⟩ (z7 (st:=wq) l35 c35 k35)
 have h_Trail_forth:=Xf (P:=l.prog) (w:=w) (base:=base) A_Trail n_Trail_done n_Trail_undone (mg_none_of X G z_len) ⟨a36,i36,k36⟩ (z7 (st:=xV) l36 c36 k36)
 have h__law_goes:=W9 (P:=l.prog) (w:=w) (base:=base) D37 h__law_now h_Trail_sizes h_Trail_forth h_Trail_back h_Trail_steps (mg_none_of X G z_range) (mg_none_of X G z_len)
 have h_Trail_twin:=X5 (P:=l.prog) (w:=w) (base:=base) A_Trail n_Trail_undone n_Trail_done n_Trail_names c_Trail (mg_none_of X G z_list) ⟨a38,i38,k38⟩ (z7 (st:=wm) l38 c38 k38)
 exact ze9 (zd9 (z7 (st:=Zb) l39 c39 k39) h__law_now h__law_go_on h__law_goes h__law_step h_Trail_twin h_Trail_sizes h_Trail_back h_Trail_forth c_Trail h__law_drawn h__law_names (mg_none_of X G z_range) (mg_none_of X G z_len)) hl
end Law
open PySem PySem.W PyProof.Rows
set_option maxRecDepth 100000 in
set_option maxHeartbeats 0 in
theorem PySem.Challenge.cw_fewfind_k94_whole_back_and_twins_holds : PySem.Challenge.rw_fewfind_k94_whole_back_and_twins.Holds := by
 w_on;o_law;k_head;(case hw=>w_witness2)
 k_fill
 refine FD.walkM (l:=PySem.Challenge.rw_fewfind_k94_whole_back_and_twins) (k:=11) (p := "_law_script") rfl rfl ⟨rfl,by decide,by decide⟩ ?T ?F
 case F=>
  intro w mg fa h KX G hmg
  refine' Law.all_mk KX G hmg Law.main ..
  any_goals first|k_is|k_exc|with_unfolding_all rfl
 case T=>decide
