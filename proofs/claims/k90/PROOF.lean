import PyProof.Rows.All
import Wide.All
import OpenK.AllK
import Wide.FinOn
import Lean
import PyProof.EqAt
import PyProof.EqKinds
import PyProof.TupleCall
import PyProof.NeKinds
import PyProof.NeData
import PyProof.P3In
import PyProof.ZipIter
import PyProof.Draws
import PyProof.StrWalks
import PyProof.IsiPairs
import PyProof.IsiSeqPairs
import PyProof.ConsumeWalk
import PyProof.ListStr
import PyProof.IsiHeapPairs
import PyProof.Rows.Range3
import PyProof.IsiNone
import KE.KRevIter
import KE.KRevSl
import PyProof.Conv_int_bool
import PyProof.ListRange
import PyProof.TupleOfSeq
import PyProof.MinMaxWalk
import PyProof.WalkInts
import PyProof.SeqI3
import PyProof.SetKind
import PyProof.Rows.SetFrom
import PyProof.CollectWalk
import PyProof.FactsAll.set
import PyProof.Rows.SortWalk
import PyProof.Rows.SortShell
import PyProof.Rows.SumAny
import PyProof.DictWalks
import PyProof.Rows.SortRev
import PyProof.Rows.SortStr
import PyProof.AttrMissHeap
import KE.KDictOf
import KE.KEqDict
import PySem.Challenge.RW_fewfind_k90_texts
set_option Elab.async false
set_option linter.all false
set_option maxRecDepth 100000
open PySem.W (methodObj keepIn callWith_K fnOf codeIn nsIn excIn Looks exmOne findIn findObj mroIn typeIn kitCls kitOne mg_of mg_none_of)
open PyProof.Rows (boot_str boot_int)
open List (mem_filter mem_range mem_cons_self mem_cons_of_mem mem_cons mem_append mem_append_left getElem?_set_self getElem?_set_ne mem_append_right size_toArray append_nil nodup_cons getElem?_append_right getElem?_replicate getElem?_append_left getElem?_map length_append length_map replicate_succ flatten_cons append_assoc foldl_cons nil_append map_nil map_cons getElem?_set lookup_cons set_set length_cons all_eq_true getD_eq_getElem?_getD getElem_mem cons_append mem_map map_map map_id getElem?_cons_zero length_nil getElem?_cons_succ getElem?_eq_getElem set_cons_succ set_cons_zero map_append not_mem_nil)
open Nat (lt_of_lt_of_le lt_irrefl ne_of_lt le_trans ne_of_gt le_refl zero_le)
open PySem.W (Frag)
open PySem.Heap (get?_push_of_some)
open Int (emod_nonneg)
namespace L2
open PySem PySem.Spec PyProof.Rows
theorem lnz1{α:Type _}{l:List α}(h:l.length=1):∃a,l=[a]:=List.length_eq_one_iff.mp h
theorem lnz2{α:Type _}{l:List α}(h:l.length=2):∃a b,l=[a,b]:=by
 match l,h with
 |[a,b],_=>exact⟨a,b,rfl⟩
theorem lnz3{α:Type _}{l:List α}(h:l.length=3):∃a b c,l=[a,b,c]:=by
 match l,h with
 |[a,b,c],_=>exact⟨a,b,c,rfl⟩
theorem lnz4{α:Type _}{l:List α}(h:l.length=4):∃a b c d,l=[a,b,c,d]:=by
 match l,h with
 |[a,b,c,d],_=>exact⟨a,b,c,d,rfl⟩
noncomputable abbrev Key:=Sum Int Str
noncomputable def Ji:Key→Value→Bool
 |.inl k,v=>Value.isInt k v
 |.inr x,v=>Value.isStrOf x v
noncomputable def keyH(w:World):Key→Int
 |.inl k=>hashInt k
 |.inr x=>hashStr w x
theorem yj:∀{k:Key} {v:Value},Ji k v=true→(∃i t,k=Sum.inl i∧v=Value.int i t)∨(∃x t,k=Sum.inr x∧v=Value.str x t)
 |.inl i,v,h=>by
  obtain⟨t,e⟩:=Value.isInt_shape (k:=i) (v:=v) h
  exact .inl ⟨i,t,rfl,e⟩
 |.inr x,v,h=>by
  obtain⟨t,e⟩:=Value.isStrOf_shape (x:=x) (v:=v) h
  exact .inr ⟨x,t,rfl,e⟩
theorem Qa(a b:Int):decide ((Sum.inl a:Key)=Sum.inl b)=(a==b):=by
 by_cases e:a=b
 ·subst e;simp
 ·have h:¬ (Sum.inl a:Key)=Sum.inl b:=fun q=>e (Sum.inl.inj q)
  rw[decide_eq_false h]
  exact(beq_eq_false_iff_ne.mpr e).symm
theorem J0(a b:Str):decide ((Sum.inr a:Key)=Sum.inr b)=decide (a=b):=by
 by_cases e:a=b
 ·subst e;simp
 ·have h:¬ (Sum.inr a:Key)=Sum.inr b:=fun q=>e (Sum.inr.inj q)
  rw[decide_eq_false h,decide_eq_false e]
theorem J6(a:Int)(b:Str):decide ((Sum.inl a:Key)=Sum.inr b)=false:=decide_eq_false (fun q=>nomatch q)
theorem J5(a:Str)(b:Int):decide ((Sum.inr a:Key)=Sum.inl b)=false:=decide_eq_false (fun q=>nomatch q)
noncomputable def Zv(prog:Program)(w:World):PySem.KeyKind prog w Key where
 is:=Ji
 hash:=keyH w
 inj:=fun v a b ha hb=>by
  rcases yj ha with ⟨i,t,rfl,rfl⟩|⟨x,t,rfl,rfl⟩
  ·rcases yj hb with ⟨j,u,rfl,e⟩|⟨y,u,rfl,e⟩
   ·injection e with e1 _;rw[e1]
   ·exact nomatch e
  ·rcases yj hb with ⟨j,u,rfl,e⟩|⟨y,u,rfl,e⟩
   ·exact nomatch e
   ·injection e with e1 _;rw[e1]
 byValue:=fun k v h=>by
  rcases yj h with ⟨i,t,rfl,rfl⟩|⟨x,t,rfl,rfl⟩ <;> rfl
 pyHash:=fun hv h=>by
  rcases yj hv with ⟨i,t,rfl,rfl⟩|⟨x,t,rfl,rfl⟩
  ·exact wpAny_pyHash_int h
  ·exact wpAny_pyHash_str h
 eqBool:=fun hu hv h=>by
  rcases yj hu with ⟨i,t,rfl,rfl⟩|⟨x,t,rfl,rfl⟩
  ·rcases yj hv with ⟨j,u,rfl,rfl⟩|⟨y,u,rfl,rfl⟩
   ·rw[Qa] at h;exact wpAny_eqBool_int h
   ·rw[J6] at h;exact SeqAt.EqAt.int_str i t y u _ _ _ _ h
  ·rcases yj hv with ⟨j,u,rfl,rfl⟩|⟨y,u,rfl,rfl⟩
   ·rw[J5] at h;exact SeqAt.EqAt.str_int x t j u _ _ _ _ h
   ·rw[J0] at h;exact wpAny_eqBool_str h
 «strs»:=fun k x t v h=>by
  rcases yj h with ⟨i,u,rfl,e⟩|⟨y,u,rfl,e⟩
  ·exact nomatch e
  ·injection e with e1 _
   subst e1
   cases v <;> rfl
inductive V where
 | non|bl (b:Bool) | int (i:Int) | str (x:Str) | byt (b:Array UInt8) | flt (b:UInt64) | ref (a:Addr) | ty (n:String)
 deriving DecidableEq
noncomputable def RelV:V→Value→Prop
 |.non,u=>u=Value.none
 |.bl b,u=>u=Value.bool b
 |.int i,u=>∃t,u=Value.int i t
 |.str x,u=>∃t,u=Value.str x t
 |.byt b,u=>∃t,u=Value.bytes b t
 |.flt b,u=>∃t,u=Value.float b t
 |.ref a,u=>u=Value.ref a
 |.ty n,u=>u=Value.type n
noncomputable abbrev Vals:List V→List Value→Prop:=Paired RelV
theorem Vals.length{xs:List V}{us:List Value}(r:Vals xs us):xs.length=us.length:=Paired.length r
theorem Vals.get:∀{xs:List V} {us:List Value} {i:Nat} {x:V},Vals xs us→xs[i]?=some x→∃u,us[i]?=some u∧RelV x u
 |_,_,_,_,.nil,e=>by simp at e
 |_,_,0,_,.cons r _,e=>by simp at e;subst e;exact⟨_,rfl,r⟩
 |_,_,i+1,x,.cons _ t,e=>by
  obtain⟨u,h1,h2⟩:=Vals.get (i:=i) (x:=x) t (by simpa using e)
  exact⟨u,by simpa using h1,h2⟩
theorem Vals.set{x:V}{u:Value}(r:RelV x u):∀{xs:List V} {us:List Value} (i:Nat),Vals xs us→Vals (xs.set i x) (us.set i u)
 |_,_,_,.nil=>.nil
 |_,_,0,.cons _ t=>.cons r t
 |_,_,i+1,.cons q t=>.cons q (Vals.set r i t)
theorem Vals.append:∀{xs ys:List V} {us ws:List Value},Vals xs us→Vals ys ws→Vals (xs++ys) (us++ws)
 |_,_,_,_,.nil,s=>s
 |_,_,_,_,.cons r t,s=>.cons r (Vals.append t s)
theorem Vals.take:∀{xs:List V} {us:List Value} (n:Nat),Vals xs us→Vals (xs.take n) (us.take n)
 |_,_,0,_=>.nil
 |_,_,_+1,.nil=>.nil
 |_,_,n+1,.cons r t=>.cons r (Vals.take n t)
theorem Vals.drop:∀{xs:List V} {us:List Value} (n:Nat),Vals xs us→Vals (xs.drop n) (us.drop n)
 |_,_,0,r=>r
 |_,_,_+1,.nil=>.nil
 |_,_,n+1,.cons _ t=>Vals.drop n t
noncomputable def RelO:Option V→Option Value→Prop
 |some v,some u=>RelV v u
 |none,none=>True
 |_,_=>False
noncomputable def KV{κ:Type}:List (κ×V)→List (κ×Value)→Prop:=Paired fun (p:κ×V) (q:κ×Value)=>p.1=q.1∧RelV p.2 q.2
noncomputable def kV:Key→V
 |.inl i=>.int i
 |.inr x=>.str x
inductive HO where
 | lst (xs:List V)
 | tup (xs:List V)
 | dK (kvs:List (Key×V)) | dT (kvs:List (List Key×V))
 | set (S:Int→Bool) (n:Nat)
 | ins (C dx:Addr) (fs:List (Str×V))
 | own (x:Addr)
 | xd (fs:List (Str×V))
 | met (f x:Addr)
 | rng (lo hi:Int)
 | frz (o:Obj) (u:HO)
 | tbl (ps:Array Value)
 | ext (φ:Heap→Prop)
noncomputable abbrev Hp:=Addr→Option HO
noncomputable def upd(H:Hp)(a:Addr)(o:HO):Hp:=fun b=>if b=a then some o else H b
theorem zr{H:Hp}{a:Addr}{o:HO}:upd H a o a=some o:=by unfold upd;rw[if_pos rfl]
theorem zm{H:Hp}{a b:Addr}{o:HO}(h:b≠a):upd H a o b=H b:=by unfold upd;rw[if_neg h]
theorem zx{H:Hp}{a b:Addr}{o:HO}(h:H a=some o)(h':H b=none):a≠b:=by
 intro e;subst e;rw[h] at h';cases h'
section
variable(P:Program)(w:World)
noncomputable def ObjOk(H:Hp)(h:Heap)(a:Addr):HO→Prop
 |.lst xs=>xs.length≤sizeLine∧∃(its:List Value) (n:Nat),Vals xs its∧h.get? a=some { cls:=.type "list", data:=.seq its.toArray n }
 |.tup xs=>xs.length≤sizeLine∧∃its:List Value,Vals xs its∧IsTup h a its.toArray
 |.dK kvs=>kvs.length≤sizeLine∧(a==sysModules)=false∧∃vs,KV kvs vs∧h.DictOf (Zv P w) a vs
 |.dT kvs=>kvs.length≤sizeLine∧(a==sysModules)=false∧∃xs:List (List Key×Addr×Value),
   Paired (fun (p:List Key×V) (q:List Key×Addr×Value)=>p.1=q.1∧H q.2.1=some (.tup (p.1.map kV))∧RelV p.2 q.2.2) kvs xs ∧
   ∃o es ep,h.get? a=some o∧o.ExactDict∧o.data=.dict es ep∧es.toList=xs.map (entryOfKey (tupleKind (Zv P w)))∧(xs.map (·.1)).Nodup
 |.set S n=>h.SetOf (intKind P w) a S n
 |.ins C dx fs=>H dx=some (.own a)∧fs.length≤1000∧dx≠a∧h.get? a=some (PySem.W.instObj C dx) ∧
   ∃mA,h.Ns1 dx mA∧(∀f,RelO (fs.lookup f) (mA f))∧PySem.Within mA (fs.map (·.1))
 |.own _=>∃o,h.get? a=some o
 |.xd fs=>∃mA,h.Ns1 a mA∧∀f,RelO (fs.lookup f) (mA f)
 |.rng lo hi=>∃t u v,h.get? a=some { cls:=.type "range", data:=.fields #[.int lo t,.int hi u,.int 1 v] }
 |.frz o u=>h.get? a=some o∧ObjOk H h a u
 |.tbl ps=>h.get? a=some { cls:=.none,data:=.fields ps }
 |.met f x=>h.get? a=some (methodObj (.ref f) (.ref x))
 |.ext φ=>φ h∧(∃o,h.get? a=some o)∧∀h1 h2:Heap,φ h1→(∀o,h1.get? a=some o→h2.get? a=some o)→φ h2
noncomputable def HOk(H:Hp)(h:Heap):Prop:=∀a o,H a=some o→ObjOk P w H h a o
end
section
variable{P:Program}{w:World}{H H':Hp}{h h':Heap}{a:Addr}{o:HO}
theorem ObjOk.lt(x:ObjOk P w H h a o):a<h.objs.size:=by
 cases o with
 |lst xs=>obtain⟨_,_,_,_,e⟩:=x;exact Heap.lt_size e
 |tup xs=>obtain⟨_,_,_,p⟩:=x;exact p.lt
 |dK kvs=>obtain⟨_,_,_,_,o,_,_,e,_⟩:=x;exact Heap.lt_size e
 |dT kvs=>obtain⟨_,_,_,_,o,_,_,e,_⟩:=x;exact Heap.lt_size e
 |set S n=>obtain⟨o,_,_,_,e,_⟩:=x;exact Heap.lt_size e
 |ins C dx fs=>obtain⟨_,_,_,e,_⟩:=x;exact Heap.lt_size e
 |own y=>obtain⟨_,e⟩:=x;exact Heap.lt_size e
 |xd fs=>obtain⟨_,⟨_,_,_,e,_⟩,_⟩:=x;exact Heap.lt_size e
 |rng lo hi=>obtain⟨_,_,_,e⟩:=x;exact Heap.lt_size e
 |frz ob u=>obtain⟨e,_⟩:=x;exact Heap.lt_size e
 |tbl ps=>exact Heap.lt_size (show h.get? a=some _ from x)
 |met f y=>exact Heap.lt_size (show h.get? a=some _ from x)
 |ext φ=>obtain⟨_,⟨_,e⟩,_⟩:=x;exact Heap.lt_size e
theorem Paired.mapP{α β:Type}{F G:α→β→Prop}:∀{l₁:List α} {l₂:List β},Paired F l₁ l₂→(∀a b,F a b→G a b)→Paired G l₁ l₂
 |_,_,.nil,_=>.nil
 |_,_,.cons r t,f=>.cons (f _ _ r) (Paired.mapP t f)
theorem ObjOk.stay(x:ObjOk P w H h a o)(k:∀b u,(b=a∨H b=some (.own a))→h.get? b=some u→h'.get? b=some u)
  (ho:∀b,H b=some (.own a)→H' b=some (.own a)) (ht:∀b xs,H b=some (.tup xs)→H' b=some (.tup xs)):ObjOk P w H' h' a o:=by
 induction o with
 |lst xs=>obtain⟨z,its,n,r,e⟩:=x;exact⟨z,its,n,r,k _ _ (.inl rfl) e⟩
 |tup xs=>obtain⟨z,its,r,ob,e,c⟩:=x;exact⟨z,its,r,ob,k _ _ (.inl rfl) e,c⟩
 |dK kvs=>obtain⟨z,y,vs,r,ob,es,ep,e,c⟩:=x;exact⟨z,y,vs,r,ob,es,ep,k _ _ (.inl rfl) e,c⟩
 |dT kvs=>
  obtain⟨z,y,xs,r,ob,es,ep,e,c⟩:=x
  exact⟨z,y,xs,Paired.mapP r fun p q z=>⟨z.1,ht _ _ z.2.1,z.2.2⟩,ob,es,ep,k _ _ (.inl rfl) e,c⟩
 |set S n=>obtain⟨ob,es,ep,t,e,c⟩:=x;exact⟨ob,es,ep,t,k _ _ (.inl rfl) e,c⟩
 |ins C dx fs=>
  obtain⟨d,z,ne,e,mA,⟨od,es,ep,e2,c⟩,r⟩:=x
  exact⟨ho _ d,z,ne,k _ _ (.inl rfl) e,mA,⟨od,es,ep,k _ _ (.inr d) e2,c⟩,r⟩
 |own y=>obtain⟨ob,e⟩:=x;exact⟨ob,k _ _ (.inl rfl) e⟩
 |xd fs=>obtain⟨mA,⟨od,es,ep,e,c⟩,r⟩:=x;exact⟨mA,⟨od,es,ep,k _ _ (.inl rfl) e,c⟩,r⟩
 |rng lo hi=>obtain⟨t,u,v,e⟩:=x;exact⟨t,u,v,k _ _ (.inl rfl) e⟩
 |frz ob u ih=>obtain⟨e,q⟩:=x;exact⟨k _ _ (.inl rfl) e,ih q⟩
 |tbl ps=>
  have e:h.get? a=some { cls:=.none,data:=.fields ps }:=x
  show h'.get? a=some { cls:=.none,data:=.fields ps }
  exact k a _ (.inl rfl) e
 |met f y=>
  have e:h.get? a=some (methodObj (.ref f) (.ref y)):=x
  show h'.get? a=some (methodObj (.ref f) (.ref y))
  exact k a _ (.inl rfl) e
 |ext φ=>obtain⟨p,⟨o,e⟩,st⟩:=x;exact⟨st _ _ p fun o q=>k _ _ (.inl rfl) q,⟨o,k _ _ (.inl rfl) e⟩,st⟩
theorem HOk.lt(x:HOk P w H h)(e:H a=some o):a<h.objs.size:=(x a o e).lt
theorem HOk.fresh(x:HOk P w H h)(e:h.objs.size≤a):H a=none:=by
 cases q:H a with
 |none=>rfl
 |some u=>exact absurd (lt_of_lt_of_le (x.lt q) e) (lt_irrefl _)
theorem HOk.kept(x:HOk P w H h)(k:∀b u,h.get? b=some u→h'.get? b=some u):HOk P w H h':=fun a o e=>
 (x a o e).stay (fun b u _ q=>k b u q) (fun _ q=>q) fun _ _ q=>q
theorem HOk.laid(x:HOk P w H h)(k:∀b u,h.get? b=some u→h'.get? b=some u)(hp:h.objs.size≤a)(new:ObjOk P w (upd H a o) h' a o):HOk P w (upd H a o) h':=fun b u e=>by
 have hn:=x.fresh hp
 by_cases hb:b=a
 ·subst hb;rw[zr] at e;cases e;exact new
 ·rw[zm hb] at e
  exact(x b u e).stay (fun c v _ q=>k c v q) (fun c q=>by rw[zm (zx q hn)];exact q) fun c xs q=>by rw[zm (zx q hn)];exact q
end
noncomputable def Rd(H:Hp)(a:Addr)(u:HO):Prop:=H a=some u∨∃o,H a=some (.frz o u)
theorem Rd.ok{P:Program}{w:World}{H:Hp}{h:Heap}{a:Addr}{u:HO}(r:Rd H a u)(x:HOk P w H h):ObjOk P w H h a u:=by
 rcases r with r|⟨o,r⟩
 ·exact x a u r
 ·obtain⟨_,q⟩:=x a _ r
  exact q
noncomputable def Mut:Option HO→Prop
 | some (.lst _)=>True
 | some (.dK _)=>True
 | some (.dT _)=>True
 | some (.set _ _)=>True
 | some (.ins _ _ _)=>True
 | some (.ext _)=>True
 |_=>False
section
variable{P:Program}{w:World}{H:Hp}{h h':Heap}{x e:Addr}{o':HO}
theorem HOk.write(ok:HOk P w H h)(mu:Mut (H x))(he:e=x∨H e=some (.own x))(k:∀b u,b≠e→h.get? b=some u→h'.get? b=some u)(heo:∃u,h'.get? e=some u)
  (new:ObjOk P w (upd H x o') h' x o'):HOk P w (upd H x o') h':=fun b u q=>by
 have nown:∀c y,H c=some (.own y)→c≠x:=fun c y r z=>by subst z;rw[r] at mu;exact mu
 have ntup:∀c xs,H c=some (.tup xs)→c≠x:=fun c xs r z=>by subst z;rw[r] at mu;exact mu
 by_cases hb:b=x
 ·subst hb;rw[zr] at q;cases q;exact new
 ·rw[zm hb] at q
  by_cases hbe:b=e
  ·have q':H b=some (.own x):=by
    rcases he with z|z
    ·exact absurd (hbe.trans z) hb
    ·rw[hbe];exact z
   rw[q] at q';cases q'
   obtain⟨v,hv⟩:=heo
   exact⟨v,by rw[hbe];exact hv⟩
  ·refine(ok b u q).stay (fun c v hc r=>k c v ?_ r) (fun c r=>by rw[zm (nown c b r)];exact r) fun c xs r=>by rw[zm (ntup c xs r)];exact r
   rcases hc with rfl|hc
   ·exact hbe
   ·rintro rfl
    rcases he with z|z
    ·exact nown c b hc z
    ·rw[hc] at z;cases z;exact hb rfl
end
structure Un(fs ex:List Addr)(H H':Hp)(h h':Heap):Prop where
 keep:∀b o,h.get? b=some o→H b=none→b∉fs→b∉ex→h'.get? b=some o
 slot:∀b o,h.get? b=some o→H b=none→b∈fs→b∉ex→∃sl,h'.get? b=some { o with slots:=sl }
 free:∀b o,h.get? b=some o→H b=none→b∉ex→H' b=none
 there:∀b o,h.get? b=some o→b∉ex→∃o',h'.get? b=some o'
 tups:∀b xs,H b=some (.tup xs)→H' b=some (.tup xs)
 frzs:∀b o u,H b=some (.frz o u)→H' b=some (.frz o u)
 tbls:∀b ps,H b=some (.tbl ps)→∃more,H' b=some (.tbl (ps++more))
section
variable{fs fs' ex ex':List Addr}{H H1 H2:Hp}{h h1 h2 h':Heap}{a x e:Addr}{o:HO}
theorem Un.any(u:Un fs ex H H1 h h1){b:Addr}{ob:Obj}(q:h.get? b=some ob)(n:H b=none)(hx:b∉ex):∃sl,h1.get? b=some { ob with slots:=sl }:=by
 by_cases hb:b∈fs
 ·exact u.slot b ob q n hb hx
 ·exact⟨ob.slots,u.keep b ob q n hb hx⟩
theorem Un.kept(k:∀b u,h.get? b=some u→h'.get? b=some u):Un fs ex H H h h':=
 ⟨fun b ob q _ _ _=>k b ob q,fun b ob q _ _ _=>⟨ob.slots,k b ob q⟩,fun _ _ _ n _=>n,fun b ob q _=>⟨ob,k b ob q⟩,fun _ _ q=>q,fun _ _ _ q=>q,fun _ ps q=>⟨#[],by rw[q];simp⟩⟩
theorem Un.refl:Un fs ex H H h h:=Un.kept fun _ _ q=>q
theorem Un.laid(k:∀b u,h.get? b=some u→h'.get? b=some u)(hp:h.objs.size≤a)(hn:H a=none):Un fs ex H (upd H a o) h h' where
 keep:=fun b u q _ _ _=>k b u q
 slot:=fun b u q _ _ _=>⟨u.slots,k b u q⟩
 free:=fun b u q n _=>by rw[zm (ne_of_lt (lt_of_lt_of_le (Heap.lt_size q) hp))];exact n
 there:=fun b u q _=>⟨u,k b u q⟩
 tups:=fun b xs q=>by rw[zm (zx q hn)];exact q
 frzs:=fun b u xs q=>by rw[zm (zx q hn)];exact q
 tbls:=fun b ps q=>⟨#[],by rw[zm (zx q hn),q];simp⟩
theorem Un.write(mu:Mut (H x))(he:e=x∨H e=some (.own x))(k:∀b u,b≠e→h.get? b=some u→h'.get? b=some u)(heo:∃u,h'.get? e=some u):Un fs ex H (upd H x o) h h':=by
 have hx:∀b,H b=none→b≠x:=fun b n z=>by subst z;rw[n] at mu;exact mu
 have hb:∀b,H b=none→b≠e:=fun b n z=>by
  subst z
  rcases he with r|r
  ·exact hx b n r
  ·rw[n] at r;cases r
 have hm:∀b u,H b=some u→¬ Mut (some u)→b≠x:=fun b u q nm z=>by subst z;rw[q] at mu;exact nm mu
 refine⟨fun b u q n _ _=>k b u (hb b n) q,fun b u q n _ _=>⟨u.slots,k b u (hb b n) q⟩,fun b u q n _=>by rw[zm (hx b n)];exact n,fun b u q _=>?_,
  fun b xs q=>by rw[zm (hm b _ q fun z=>z)];exact q,fun b u xs q=>by rw[zm (hm b _ q fun z=>z)];exact q,fun b ps q=>⟨#[],by rw[zm (hm b _ q fun z=>z),q];simp⟩⟩
 by_cases hbe:b=e
 ·subst hbe;exact heo
 ·exact⟨u,k b u hbe q⟩
end
noncomputable def trk(h:Heap)(H:Hp):List Addr:=(List.range h.objs.size).filter fun a=>(H a).isSome
noncomputable def ZD(h:Heap)(H:Hp):Heap:=PySem.W.hideAll h (trk h H)
theorem XW(h:Heap)(H:Hp):(ZD h H).objs.size=h.objs.size:=PySem.W.hideAll_size _ _
theorem Vf{h:Heap}{H:Hp}{b:Addr}{o:Obj}(e:h.get? b=some o)(n:H b=none):(ZD h H).get? b=some o:=
 PySem.W.hideAll_get _ e fun hm=>by
  have q:(H b).isSome=true:=(mem_filter.mp hm).2
  rw[n] at q;simp at q
theorem Ut{h:Heap}{H:Hp}{b:Addr}{o:Obj}(e:(ZD h H).get? b=some o):h.get? b=some o∧H b=none:=by
 have e':h.get? b=some o:=PySem.W.of_hideAll (trk h H) e
 refine⟨e',?_⟩
 cases q:H b with
 |none=>rfl
 |some x=>
  have hm:b∈trk h H:=mem_filter.mpr ⟨mem_range.mpr (Heap.lt_size e'),by simp[q]⟩
  have z:(ZD h H).get? b=none:=PySem.W.hideAll_none (trk h H) hm
  rw[z] at e;cases e
noncomputable def U7(g h:Heap)(L:Addr):List (Addr×Obj):=(List.range h.objs.size).filterMap fun a=>if a=L∨(g.get? a).isSome=true then none else (h.get? a).map fun o=>(a,o)
noncomputable def xm(g h:Heap)(L d:Addr):List (Addr×Obj):=(U7 g h L).filter fun p=>decide (p.1≠d)
structure Mod(K:Frag)(mg:Str→Option Value)(base:Heap):Prop where
 kin:K.In base
 glob:base.Ns mainGlobals mg
 blt:∃mb,base.Ns builtinsNs mb∧∀x:Str,x ≠ "__name__" → mb x=bootBuiltins x
 nolimit:base.NoLimit
structure Cx where
 prog:Program
 w:World
 K:Frag
 mg:Str→Option Value
 base:Heap
 A:Around
 N:List Str
 s₀:Shared
 H₀:Hp
 env:Env
 outer:List Env
 stack:List Env
 ex:List Addr
 fn:Str→Bool
 calm:Bool
 pn:List (Addr×Obj)
 xe:Value→Shared→Prop
noncomputable def frs(l:List Env):List Addr:=l.filterMap (·.frame)
noncomputable abbrev Cx.fs(X:Cx):List Addr:=frs X.outer
noncomputable def Vis(sc:Scope)(x:Str):Prop:=sc.names.lookup x=some .local∨sc.names.lookup x=some .cell∨sc.names.lookup x=some .free
noncomputable def Loc(sc:Scope)(x:Str):Prop:=sc.names.lookup x=some .local∨sc.names.lookup x=some .cell
noncomputable def Look(env:Env)(h:Heap)(m:Str→Option Value)(x:Str)(u:Value):Prop:=
 (env.kindOf x=some .local∧m x=some u)∨((env.kindOf x=some .cell∨env.kindOf x=some .free)∧∃c,env.cells.lookup x=some c∧h.IsCell c (some u))
structure Cx.Ok(X:Cx):Prop where
 mod:Mod X.K X.mg X.base
 kind:X.env.scope.kind=.function
 glob:X.env.globals=mainGlobals
 blt:X.env.builtins=builtinsNs
 above:X.s₀.heap.objs.size≤X.env.locals
 inj:∀x y c,X.env.cells.lookup x=some c→X.env.cells.lookup y=some c→x=y
 has:∀x,(X.env.kindOf x=some .cell∨X.env.kindOf x=some .free)→∃c,X.env.cells.lookup x=some c
 cab:∀x c,X.fn x=true→X.env.cells.lookup x=some c→X.s₀.heap.objs.size≤c
 hd:X.calm=true→X.A.handled=none
 frames:X.A.frames=some X.stack
 stk:X.stack=X.outer∨(X.stack=X.env::X.outer∧X.env.frame=some X.env.locals)
 exf:∀b∈X.ex,b≠X.env.locals∧∀x c,X.env.cells.lookup x=some c→c≠b
 bs:∀b o,X.base.get? b=some o→X.s₀.heap.get? b=some o∧X.H₀ b=none
 bsz:X.base.objs.size≤X.s₀.heap.objs.size
 noex:∀b o,X.base.get? b=some o→b∉X.ex
 exfs:∀b∈X.ex,b∉X.fs
 funs:X.s₀.heap.FunFrames X.base X.outer
 frf:∀b∈X.fs,X.H₀ b=none
structure Inv(X:Cx)(pins:List (Addr×Obj))(σ:List (Option V))(H:Hp)(s:Shared):Prop where
 ok:X.Ok
 os:s.os=X.s₀.os
 bare:AllBare s.gens
 base:Un X.fs X.ex X.H₀ H X.s₀.heap s.heap
 loc:∃m,s.heap.Ns X.env.locals m∧∀(i:Nat) (x:Str) (v:V),X.N[i]?=some x→σ[i]?=some (some v)→Vis X.env.scope x→∃u,RelV v u∧Look X.env s.heap m x u
 cell:∀x c,X.env.cells.lookup x=some c→∃v,s.heap.IsCell c v
 free:H X.env.locals=none
 freeC:∀x c,X.env.cells.lookup x=some c→H c=none
 pin:∀p∈X.pn++pins,s.heap.get? p.1=some p.2∧H p.1=none∧p.1≠X.env.locals∧p.1∉X.fs∧∀v,p.2.data≠.cell v
 hok:HOk X.prog X.w H s.heap
 len:σ.length=X.N.length
section
variable{X:Cx}{pins:List (Addr×Obj)}{σ:List (Option V)}{H H':Hp}{s:Shared}{h':Heap}
theorem Cx.Ok.nofr(ok:X.Ok){b:Addr}{o:Obj}(e:X.base.get? b=some o):b∉X.fs:=fun hb=>by
 have:=(ok.funs.mem hb).1
 rw[e] at this;cases this
theorem Inv.bs(I:Inv X pins σ H s):∀b o,X.base.get? b=some o→s.heap.get? b=some o∧H b=none:=fun b o e=>
 ⟨I.base.keep b o (I.ok.bs b o e).1 (I.ok.bs b o e).2 (I.ok.nofr e) (I.ok.noex b o e),I.base.free b o (I.ok.bs b o e).1 (I.ok.bs b o e).2 (I.ok.noex b o e)⟩
theorem Inv.bk(I:Inv X pins σ H s):∀b o,X.base.get? b=some o→s.heap.get? b=some o:=fun b o e=>(I.bs b o e).1
theorem Inv.mod(I:Inv X pins σ H s):Mod X.K X.mg X.base:=I.ok.mod
theorem Inv.kIn(I:Inv X pins σ H s):X.K.In s.heap:=I.ok.mod.kin.keeps I.bk
theorem Inv.lt(I:Inv X pins σ H s):X.env.locals<s.heap.objs.size:=let ⟨_,hn,_⟩:=I.loc;hn.lt
theorem Inv.sz(I:Inv X pins σ H s):X.s₀.heap.objs.size≤s.heap.objs.size:=le_trans I.ok.above (Nat.le_of_lt I.lt)
theorem Inv.nofs(I:Inv X pins σ H s){a:Addr}(h:s.heap.objs.size≤a):a∉X.fs:=fun hb=>by
 obtain⟨_,o,ho,_⟩:=I.ok.funs.mem hb
 exact absurd (lt_of_lt_of_le (Heap.lt_size ho) (le_trans I.sz h)) (lt_irrefl _)
theorem Inv.cne(I:Inv X pins σ H s):∀x c,X.env.cells.lookup x=some c→c≠X.env.locals:=fun x c e z=>by
 obtain⟨v,o,ho,hd⟩:=I.cell x c e
 obtain⟨m,⟨o',es,ep,ho',hd',_⟩,_⟩:=I.loc
 rw[z,ho'] at ho;cases ho;rw[hd'] at hd;cases hd
theorem Inv.funs(I:Inv X pins σ H s):s.heap.FunFrames X.base X.outer:=by
 have all:∀(l:List Env),(∀b∈frs l,b∈X.fs)→X.s₀.heap.FunFrames X.base l→s.heap.FunFrames X.base l:=by
  intro l
  induction l with
  |nil=>intro _ _;trivial
  |cons env r ih=>
   intro hs hl
   obtain⟨hk,⟨L,o,hf,hn,ho,hd⟩,hr⟩:=hl
   have hL:L∈X.fs:=hs L (by unfold frs;rw[List.filterMap_cons,hf];exact mem_cons_self)
   obtain⟨sl,e⟩:=I.base.slot L o ho (I.ok.frf L hL) hL fun z=>I.ok.exfs L z hL
   exact⟨hk,⟨L,_,hf,hn,e,hd⟩,ih (fun b hb=>hs b (by unfold frs;rw[List.filterMap_cons,hf];exact mem_cons_of_mem _ hb)) hr⟩
 exact all X.outer (fun _ hb=>hb) I.ok.funs
theorem Inv.stack(I:Inv X pins σ H s):s.heap.FunFrames X.base X.stack:=by
 rcases I.ok.stk with e|⟨e,hf⟩
 ·rw[e];exact I.funs
 ·rw[e]
  obtain⟨m,hn,_⟩:=I.loc
  refine .cons (by rw[I.ok.kind];decide) hf hn ?_ I.funs
  exact Heap.get?_none_of_le (le_trans I.ok.bsz I.ok.above)
theorem Inv.stkSub(I:Inv X pins σ H s):∀b∈frs X.stack,b∈X.env.locals::X.fs:=fun b hb=>by
 rcases I.ok.stk with e|⟨e,hf⟩
 ·rw[e] at hb;exact mem_cons_of_mem _ hb
 ·rw[e] at hb
  unfold frs at hb
  rw[List.filterMap_cons,hf] at hb
  exact hb
theorem Inv.stkFree(I:Inv X pins σ H s):∀b∈frs X.stack,H b=none:=fun b hb=>by
 rcases mem_cons.mp (I.stkSub b hb) with e|hb
 ·rw[e];exact I.free
 ·obtain⟨_,o,ho,_⟩:=I.ok.funs.mem hb
  exact I.base.free b o ho (I.ok.frf b hb) fun z=>I.ok.exfs b z hb
theorem Inv.step{g':Array GenState}{t':Nat}{d':Drawn}{ch:List Addr}(I:Inv X pins σ H s)
  (hch:∀b∈ch,(b∈X.ex∨X.s₀.heap.objs.size≤b)∧b≠X.env.locals∧(∀x c,X.env.cells.lookup x=some c→c≠b)∧∀p∈X.pn++pins,p.1≠b)
  (keep:∀b o,b≠X.env.locals→b∉X.fs→b∉ch→s.heap.get? b=some o→H b=none→h'.get? b=some o)
  (slot:∀b o,b≠X.env.locals→b∈X.fs→b∉ch→s.heap.get? b=some o→H b=none→∃sl,h'.get? b=some { o with slots:=sl }) (free:∀b o,b∉ch→s.heap.get? b=some o→H b=none→H' b=none)
  (there:∀b o,b∉ch→s.heap.get? b=some o→∃o',h'.get? b=some o')
  (tups:∀b xs,H b=some (.tup xs)→H' b=some (.tup xs)) (frzs:∀b o u,H b=some (.frz o u)→H' b=some (.frz o u)) (tbls:∀b ps,H b=some (.tbl ps)→∃more,H' b=some (.tbl (ps++more)))
  (ns:∀m,s.heap.Ns X.env.locals m→h'.Ns X.env.locals m) (hok:HOk X.prog X.w H' h') (hg:AllBare g') :
  Inv X pins σ H' { s with heap:=h',gens:=g',drawn:=d',toks:=t' }:=by
 have neL:∀b o,X.s₀.heap.get? b=some o→b≠X.env.locals:=fun b o e=>ne_of_lt (lt_of_lt_of_le (Heap.lt_size e) I.ok.above)
 have neC:∀b o,X.s₀.heap.get? b=some o→b∉X.ex→b∉ch:=fun b o e hx hb=>by
  rcases (hch b hb).1 with z|z
  ·exact hx z
  ·exact absurd (lt_of_lt_of_le (Heap.lt_size e) z) (lt_irrefl _)
 have cellK:∀x c,X.env.cells.lookup x=some c→∀v,s.heap.IsCell c v→h'.IsCell c v:=fun x c e v z_=>by
  obtain⟨o,ho,hd⟩:=z_
  have nch:c∉ch:=fun z=>(hch c z).2.2.1 x c e rfl
  by_cases hc:c∈X.fs
  ·obtain⟨sl,q⟩:=slot c o (I.cne x c e) hc nch ho (I.freeC x c e)
   exact⟨_,q,hd⟩
  ·exact⟨o,keep c o (I.cne x c e) hc nch ho (I.freeC x c e),hd⟩
 refine⟨I.ok,I.os,hg,⟨fun b o e n hb hx=>?_,fun b o e n hb hx=>?_,fun b o e n hx=>?_,fun b o e hx=>?_,fun b xs e=>tups b xs (I.base.tups b xs e),fun b o xs e=>frzs b o xs (I.base.frzs b o xs e),fun b ps e=>?_⟩,?_,fun x c e=>?_,?_,fun x c e=>?_,fun p hp=>?_,hok,I.len⟩
 ·exact keep b o (neL b o e) hb (neC b o e hx) (I.base.keep b o e n hb hx) (I.base.free b o e n hx)
 ·obtain⟨sl,e1⟩:=I.base.slot b o e n hb hx
  obtain⟨sl',e2⟩:=slot b _ (neL b o e) hb (neC b o e hx) e1 (I.base.free b o e n hx)
  exact⟨sl',e2⟩
 ·obtain⟨o',e1⟩:=I.base.there b o e hx
  exact free b o' (neC b o e hx) e1 (I.base.free b o e n hx)
 ·obtain⟨o',e1⟩:=I.base.there b o e hx
  exact there b o' (neC b o e hx) e1
 ·obtain⟨m1,e1⟩:=I.base.tbls b ps e
  obtain⟨m2,e2⟩:=tbls b _ e1
  exact⟨m1++m2,by rw[e2,Array.append_assoc]⟩
 ·obtain⟨m,hn,hl⟩:=I.loc
  refine⟨m,ns m hn,fun i x v e1 e2 e3=>?_⟩
  obtain⟨u,r,l⟩:=hl i x v e1 e2 e3
  refine⟨u,r,?_⟩
  rcases l with l|⟨k,c,e,z⟩
  ·exact .inl l
  ·exact .inr ⟨k,c,e,cellK x c e _ z⟩
 ·obtain⟨v,z⟩:=I.cell x c e
  exact⟨v,cellK x c e v z⟩
 ·obtain⟨m,⟨o,_,_,ho,_⟩,_⟩:=I.loc
  exact free _ o (fun z=>(hch _ z).2.1 rfl) ho I.free
 ·obtain⟨v,o,ho,hd⟩:=I.cell x c e
  exact free c o (fun z=>(hch c z).2.2.1 x c e rfl) ho (I.freeC x c e)
 ·obtain⟨e,n,ne,nf,d⟩:=I.pin p hp
  have nch:p.1∉ch:=fun z=>(hch p.1 z).2.2.2 p hp rfl
  exact⟨keep p.1 p.2 ne nf nch e n,free p.1 p.2 nch e n,ne,nf,d⟩
theorem Inv.un{t':Nat}(I:Inv X pins σ H s)(u:Un X.fs [] H H' s.heap h')(hok:HOk X.prog X.w H' h'):Inv X pins σ H' { s with heap:=h',toks:=t' }:=by
 obtain⟨m,⟨o,es,ep,ho,r⟩,_⟩:=id I.loc
 obtain⟨sl,hL⟩:=u.any ho I.free (by simp)
 exact I.step (g':=s.gens) (d':=s.drawn) (ch:=[]) (fun _ z=>nomatch z) (fun b o _ hb _ e n=>u.keep b o e n hb (by simp)) (fun b o _ hb _ e n=>u.slot b o e n hb (by simp)) (fun b o _ e n=>u.free b o e n (by simp)) (fun b o _ e=>u.there b o e (by simp)) u.tups u.frzs u.tbls (fun m' hm=>by
  obtain⟨o',es',ep',ho',r'⟩:=hm
  rw[ho] at ho';cases ho'
  exact⟨_,es',ep',hL,r'⟩) hok I.bare
theorem Inv.call{g':Array GenState}{t':Nat}{d':Drawn}{ch:List Addr}(I:Inv X pins σ H s)(u:Un (frs X.stack) ch H H' s.heap h')(hok:HOk X.prog X.w H' h')(hg:AllBare g')
  (hch:∀b∈ch,(b∈X.ex∨X.s₀.heap.objs.size≤b)∧b≠X.env.locals∧(∀x c,X.env.cells.lookup x=some c→c≠b)∧∀p∈X.pn++pins,p.1≠b) :
  Inv X pins σ H' { s with heap:=h',gens:=g',drawn:=d',toks:=t' }:=by
 obtain⟨m,⟨o,es,ep,ho,r⟩,_⟩:=id I.loc
 obtain⟨sl,hL⟩:=u.any ho I.free fun z=>(hch _ z).2.1 rfl
 exact I.step (ch:=ch) hch (fun b o hL hb hc e n=>u.keep b o e n (fun z=>(mem_cons.mp (I.stkSub b z)).elim hL hb) hc) (fun b o _ _ hc e n=>u.any e n hc) (fun b o hc e n=>u.free b o e n hc) (fun b o hc e=>u.there b o e hc) u.tups u.frzs u.tbls (fun m' hm=>by
  obtain⟨o',es',ep',ho',r'⟩:=hm
  rw[ho] at ho';cases ho'
  exact⟨_,es',ep',hL,r'⟩) hok hg
theorem Inv.turned{t':Nat}{it:Addr}(I:Inv X pins σ H s)(k:∀b o,b≠it→s.heap.get? b=some o→h'.get? b=some o)(hn:H it=none)(hL:it≠X.env.locals)
  (h1:it∈X.ex∨X.s₀.heap.objs.size≤it) (h2:∀x c,X.env.cells.lookup x=some c→c≠it) (h3:∀p∈X.pn++pins,p.1≠it):Inv X pins σ H { s with heap:=h',toks:=t' }:=by
 have nit:∀b u,H b=some u→b≠it:=fun b u e z=>by rw[z,hn] at e;cases e
 refine I.step (g':=s.gens) (d':=s.drawn) (ch:=[it]) (fun b hb=>?_) (fun b o _ _ hc e _=>k b o (fun z=>hc (by simp[z])) e) (fun b o _ _ hc e _=>⟨o.slots,k b o (fun z=>hc (by simp[z])) e⟩) (fun _ _ _ _ n=>n)
  (fun b o hc e=>⟨o,k b o (fun z=>hc (by simp[z])) e⟩) (fun _ _ e=>e) (fun _ _ _ e=>e) (fun b ps e=>⟨#[],by rw[e];simp⟩) (fun m hm=>?_) (fun b u e=>?_) I.bare
 ·have e:b=it:=by simpa using hb
  subst e
  exact⟨h1,hL,h2,h3⟩
 ·obtain⟨o,es,ep,ho,r⟩:=hm
  exact⟨o,es,ep,k _ o (Ne.symm hL) ho,r⟩
 ·refine(I.hok b u e).stay (fun c v hc q=>k c v ?_ q) (fun _ q=>q) fun _ _ q=>q
  rcases hc with z|z
  ·rw[z];exact nit b u e
  ·exact nit c _ z
theorem Inv.tok(I:Inv X pins σ H s)(t:Nat):Inv X pins σ H { s with toks:=t }:=I.un (h':=s.heap) (t':=t) Un.refl I.hok
theorem Inv.kept{t':Nat}(I:Inv X pins σ H s)(k:∀b u,s.heap.get? b=some u→h'.get? b=some u):Inv X pins σ H { s with heap:=h',toks:=t' }:=I.un (Un.kept k) (I.hok.kept k)
theorem Inv.laid{a:Addr}{o:HO}{t':Nat}(I:Inv X pins σ H s)(k:∀b u,s.heap.get? b=some u→h'.get? b=some u)(hp:s.heap.objs.size≤a)(new:ObjOk X.prog X.w (upd H a o) h' a o) :
  Inv X pins σ (upd H a o) { s with heap:=h',toks:=t' }:=I.un (Un.laid k hp (I.hok.fresh hp)) (I.hok.laid k hp new)
theorem Inv.write{x e:Addr}{o:HO}{t':Nat}(I:Inv X pins σ H s)(mu:Mut (H x))(he:e=x∨H e=some (.own x))(k:∀b u,b≠e→s.heap.get? b=some u→h'.get? b=some u)(heo:∃u,h'.get? e=some u)
  (new:ObjOk X.prog X.w (upd H x o) h' x o):Inv X pins σ (upd H x o) { s with heap:=h',toks:=t' }:=I.un (Un.write mu he k heo) (I.hok.write mu he k heo new)
theorem Inv.pins_of{pins':List (Addr×Obj)}(I:Inv X pins σ H s)(h:∀p∈pins',s.heap.get? p.1=some p.2∧H p.1=none∧p.1≠X.env.locals∧p.1∉X.fs∧∀v,p.2.data≠.cell v):Inv X pins' σ H s:=
 ⟨I.ok,I.os,I.bare,I.base,I.loc,I.cell,I.free,I.freeC,fun p hp=>(mem_append.mp hp).elim (fun z=>I.pin p (mem_append_left _ z)) (h p),I.hok,I.len⟩
theorem Ya{N:List Str}(hN:N.Nodup){i j:Nat}{x:Str}(a:N[i]?=some x)(b:N[j]?=some x):i=j:=by
 obtain⟨h1,e1⟩:=List.getElem?_eq_some_iff.mp a
 obtain⟨h2,e2⟩:=List.getElem?_eq_some_iff.mp b
 exact(List.getElem_inj hN).mp (e1.trans e2.symm)
theorem jO{M:Model}{A:Around}{E:Value→Shared→Prop}{i:Nat}{x:Str}{v:V}{u:Value}{Q:Unit→Shared→Prop}(I:Inv X pins σ H s)(hN:X.N.Nodup)(hi:X.N[i]?=some x)(hx:Loc X.env.scope x)(r:RelV v u)
  (h:∀s',Inv X pins (σ.set i (some v)) H s'→(∃a,Heap.SameBut a s.heap s'.heap∧(a=X.env.locals∨X.env.cells.lookup x=some a))→Q () s') (hf:X.fn x=true∨X.env.scope.names.lookup x=some .local:=by first|exact .inl rfl|exact .inr rfl|assumption):wpAny M A (storeName X.env x u) Q E s:=by
 obtain⟨m,hn,hl⟩:=id I.loc
 have hcls:(X.env.scope.kind == .class||(X.env.scope.kind == .module&&X.env.locals != X.env.globals))=false:=by rw[I.ok.kind];rfl
 have hiσ:i<σ.length:=by rw[I.len];exact(List.getElem?_eq_some_iff.mp hi).1
 have cne:=I.cne
 have tracked:∀{a:Addr} {h':Heap},(∃o,s.heap.get? a=some o∧H a=none)→Heap.SameBut a s.heap h'→HOk X.prog X.w H h':=fun {a h'} ha hs b ob e=>by
  obtain⟨_,_,hfree⟩:=ha
  refine(I.hok b ob e).stay (fun c w' hc q=>(hs.2 c ?_).trans q) (fun _ q=>q) fun _ _ q=>q
  rintro rfl
  rcases hc with rfl|hc
  ·rw[hfree] at e;cases e
  ·rw[hfree] at hc;cases hc
 rcases hx with hk|hk
 ·refine wpAny_storeName_local hk hn (fun h' hn' hs=>?_) hcls
  obtain⟨oL,_,_,hoL,_⟩:=id hn
  refine h _ ⟨I.ok,I.os,I.bare,⟨fun b o e n hb hx=>?_,fun b o e n hb hx=>?_,I.base.free,fun b o e hx=>?_,I.base.tups,I.base.frzs,I.base.tbls⟩,⟨_,hn',fun j y v' e1 e2 e3=>?_⟩,fun y c e=>?_,I.free,I.freeC,fun p hp=>?_,tracked ⟨oL,hoL,I.free⟩ hs,by simpa using I.len⟩ ⟨_,hs,.inl rfl⟩
  ·exact(hs.2 b (ne_of_lt (lt_of_lt_of_le (Heap.lt_size e) I.ok.above))).trans (I.base.keep b o e n hb hx)
  ·obtain⟨sl,e1⟩:=I.base.slot b o e n hb hx
   exact⟨sl,(hs.2 b (ne_of_lt (lt_of_lt_of_le (Heap.lt_size e) I.ok.above))).trans e1⟩
  ·obtain⟨o',e1⟩:=I.base.there b o e hx
   exact⟨o',(hs.2 b (ne_of_lt (lt_of_lt_of_le (Heap.lt_size e) I.ok.above))).trans e1⟩
  ·by_cases hj:j=i
   ·subst hj
    rw[hi] at e1;cases e1
    rw[getElem?_set_self hiσ] at e2
    cases e2
    exact⟨u,r,.inl ⟨hk,by simp⟩⟩
   ·rw[getElem?_set_ne (Ne.symm hj)] at e2
    obtain⟨u',r',q⟩:=hl j y v' e1 e2 e3
    refine⟨u',r',?_⟩
    rcases q with ⟨k,e⟩|⟨k,c,e,z⟩
    ·refine .inl ⟨k,?_⟩
     have:y≠x:=fun e=>hj (Ya hN e1 (e ▸ hi))
     simp[this,e]
    ·exact .inr ⟨k,c,e,z.sameBut hs (cne y c e)⟩
  ·obtain⟨w',z⟩:=I.cell y c e
   exact⟨w',z.sameBut hs (cne y c e)⟩
  ·obtain⟨e,n,ne,nf,d⟩:=I.pin p hp
   exact⟨(hs.2 p.1 ne).trans e,n,ne,nf,d⟩
 ·have hfn:X.fn x=true:=by
   rcases hf with z|z
   ·exact z
   ·rw[z] at hk;cases hk
  obtain⟨c,hc⟩:=I.ok.has x (.inl hk)
  obtain⟨w',z⟩:=I.cell x c hc
  refine wpAny_storeName_cell I.ok.kind hk hc z (fun h' hc' hs=>?_)
  obtain⟨oc,hoc,hocd⟩:=id z
  refine h { s with heap:=h' } ⟨I.ok,I.os,I.bare,⟨fun b o e n hb hx=>?_,fun b o e n hb hx=>?_,I.base.free,fun b o e hx=>?_,I.base.tups,I.base.frzs,I.base.tbls⟩,⟨m,hn.sameBut hs (Ne.symm (cne x c hc)),fun j y v' e1 e2 e3=>?_⟩,fun y c' e=>?_,I.free,I.freeC,fun p hp=>?_,tracked ⟨oc,hoc,I.freeC x c hc⟩ hs,by simpa using I.len⟩ ⟨c,hs,.inr hc⟩
  ·exact(hs.2 b (ne_of_lt (lt_of_lt_of_le (Heap.lt_size e) (I.ok.cab x c hfn hc)))).trans (I.base.keep b o e n hb hx)
  ·obtain⟨sl,e1⟩:=I.base.slot b o e n hb hx
   exact⟨sl,(hs.2 b (ne_of_lt (lt_of_lt_of_le (Heap.lt_size e) (I.ok.cab x c hfn hc)))).trans e1⟩
  ·obtain⟨o',e1⟩:=I.base.there b o e hx
   exact⟨o',(hs.2 b (ne_of_lt (lt_of_lt_of_le (Heap.lt_size e) (I.ok.cab x c hfn hc)))).trans e1⟩
  ·by_cases hj:j=i
   ·subst hj
    rw[hi] at e1;cases e1
    rw[getElem?_set_self hiσ] at e2
    cases e2
    exact⟨u,r,.inr ⟨.inl hk,c,hc,hc'⟩⟩
   ·rw[getElem?_set_ne (Ne.symm hj)] at e2
    obtain⟨u',r',q⟩:=hl j y v' e1 e2 e3
    refine⟨u',r',?_⟩
    rcases q with q|⟨k,c',e,z'⟩
    ·exact .inl q
    ·refine .inr ⟨k,c',e,z'.sameBut hs ?_⟩
     rintro rfl
     exact hj (Ya hN e1 (I.ok.inj _ _ _ e hc ▸ hi))
  ·by_cases hcc:c'=c
   ·subst hcc;exact⟨_,hc'⟩
   ·obtain⟨w2,z2⟩:=I.cell y c' e
    exact⟨w2,z2.sameBut hs hcc⟩
  ·obtain⟨e,n,ne,nf,d⟩:=I.pin p hp
   refine⟨(hs.2 p.1 ?_).trans e,n,ne,nf,d⟩
   intro q
   rw[q,hoc] at e
   have q':oc=p.2:=Option.some.inj e
   exact d w' (by rw[← q'];exact hocd)
theorem uR{M:Model}{A:Around}{E:Value→Shared→Prop}{i:Nat}{x:Str}{v:V}{u:Value}{Q:Unit→Shared→Prop}(I:Inv X pins σ H s)(hN:X.N.Nodup)(hi:X.N[i]?=some x)(hx:Loc X.env.scope x)(r:RelV v u)
  (h:∀s',Inv X pins (σ.set i (some v)) H s'→Q () s') (hf:X.fn x=true∨X.env.scope.names.lookup x=some .local:=by first|exact .inl rfl|exact .inr rfl|assumption):wpAny M A (storeName X.env x u) Q E s:=
 jO I hN hi hx r (fun s' I' _=>h s' I') hf
theorem Inv.call'{s':Shared}{ch:List Addr}(I:Inv X pins σ H s)(ho:s'.os=s.os)(u:Un (frs X.stack) ch H H' s.heap s'.heap)(hok:HOk X.prog X.w H' s'.heap)(hg:AllBare s'.gens)
  (hch:∀b∈ch,(b∈X.ex∨X.s₀.heap.objs.size≤b)∧b≠X.env.locals∧(∀x c,X.env.cells.lookup x=some c→c≠b)∧∀p∈X.pn++pins,p.1≠b):Inv X pins σ H' s':=by
 obtain⟨h',g',d',t',o'⟩:=s'
 have e:o'=s.os:=ho
 subst e
 exact I.call (g':=g') (t':=t') (d':=d') u hok hg hch
end
noncomputable abbrev XK:=Value→Option Addr→Hp→Prop
noncomputable abbrev St:=List (Option V)
noncomputable abbrev VK:=V→Hp→Prop
noncomputable abbrev TE:=St→Hp→VK→Prop
noncomputable abbrev TT:=St→Hp→(Bool→Hp→Prop)→Prop
noncomputable abbrev TA:=St→Hp→(List V→Hp→Prop)→Prop
structure Yq where
 nx:St→Hp→Prop
 rt:VK
 bk:St→Hp→Prop:=fun _ _=>False
 ct:St→Hp→Prop:=fun _ _=>False
noncomputable abbrev TS:=Yq→St→Hp→Prop
noncomputable def EP(X:Cx)(pins:List (Addr×Obj))(σ:St)(Q:VK)(u:Value)(s':Shared):Prop:=∃v H',Inv X pins σ H' s'∧RelV v u∧Q v H'
noncomputable def TP(X:Cx)(pins:List (Addr×Obj))(σ:St)(Q:Bool→Hp→Prop)(b:Bool)(s':Shared):Prop:=∃H',Inv X pins σ H' s'∧Q b H'
noncomputable def AP(X:Cx)(pins:List (Addr×Obj))(σ:St)(Q:List V→Hp→Prop)(us:List Value)(s':Shared):Prop:=∃vs H',Inv X pins σ H' s'∧Vals vs us∧Q vs H'
noncomputable def SP(X:Cx)(pins:List (Addr×Obj))(D:Yq)(f:Flow)(s':Shared):Prop:=
 match f with
 |.next=>∃σ' H',Inv X pins σ' H' s'∧D.nx σ' H'
 |.brk=>∃σ' H',Inv X pins σ' H' s'∧D.bk σ' H'
 |.cont=>∃σ' H',Inv X pins σ' H' s'∧D.ct σ' H'
 |.ret u=>∃v σ' H',Inv X pins σ' H' s'∧RelV v u∧D.rt v H'
noncomputable def PE(X:Cx)(e:Expr)(t:TE):Prop:=
 ∀(pins:List (Addr×Obj)) (s:Shared) (σ:St) (H:Hp) (Q:VK),Inv X pins σ H s→t σ H Q→wpAny (model X.prog X.w) X.A (eval e X.env) (EP X pins σ Q) X.xe s
noncomputable def PT(X:Cx)(e:Expr)(t:TT):Prop:=
 ∀(pins:List (Addr×Obj)) (s:Shared) (σ:St) (H:Hp) (Q:Bool→Hp→Prop),Inv X pins σ H s→t σ H Q→wpAny (model X.prog X.w) X.A (isTrue e X.env (eval e X.env)) (TP X pins σ Q) X.xe s
noncomputable def PW(X:Cx)(e:Expr)(t:TT):Prop:=
 ∀(whole:Sem Value) (pins:List (Addr×Obj)) (s:Shared) (σ:St) (H:Hp) (Q:Bool→Hp→Prop),Inv X pins σ H s→t σ H Q→wpAny (model X.prog X.w) X.A (isTrue e X.env whole) (TP X pins σ Q) X.xe s
theorem PW.pt{X:Cx}{e:Expr}{t:TT}(h:PW X e t):PT X e t:=h _
noncomputable def PA(X:Cx)(es:List Expr)(t:TA):Prop:=
 ∀(pos:Pos) (pins:List (Addr×Obj)) (s:Shared) (σ:St) (H:Hp) (Q:List V→Hp→Prop),Inv X pins σ H s→t σ H Q→wpAny (model X.prog X.w) X.A (spliced (backTo pos (starEach es X.env))) (AP X pins σ Q) X.xe s
noncomputable def PS(X:Cx)(st:Stmt)(t:TS):Prop:=
 ∀(pins:List (Addr×Obj)) (s:Shared) (σ:St) (H:Hp) (D:Yq),Inv X pins σ H s→t D σ H→wpAny (model X.prog X.w) X.A (exec st X.env) (SP X pins D) X.xe s
noncomputable def PSs(X:Cx)(st:List Stmt)(t:TS):Prop:=
 ∀(pins:List (Addr×Obj)) (s:Shared) (σ:St) (H:Hp) (D:Yq),Inv X pins σ H s→t D σ H→wpAny (model X.prog X.w) X.A (execs st X.env) (SP X pins D) X.xe s
theorem thn{α:Type}{t:Sem α}{Q Q':α→Shared→Prop}{M:Model}{A:Around}{E:Value→Shared→Prop}{s:Shared}(h:wpAny M A t Q E s)(hQ:∀a s,Q a s→Q' a s):wpAny M A t Q' E s:=wpAny_mono h hQ fun _ _ x=>x
section
variable{X:Cx}
noncomputable def ZR(i:Nat):TE:=fun σ H Q=>∃v,σ[i]?=some (some v)∧Q v H
noncomputable def tC(v:V):TE:=fun _ H Q=>Q v H
theorem JH{i:Nat}{x:Str}{pos:Pos}(hN:X.N[i]?=some x)(hv:Vis X.env.scope x)(hd:(x==("__debug__" : Str))=false:=by decide)(hcd:(x==("__classdict__" : Str))=false:=by decide):PE X (.Name x pos) (ZR i):=by
 intro pins s σ H Q I h
 obtain⟨v,e,h⟩:=h
 obtain⟨m,hn,hl⟩:=I.loc
 obtain⟨u,r,l⟩:=hl i x v hN e hv
 have fin:EP X pins σ Q u s:=⟨v,H,I,r,h⟩
 rcases l with ⟨hk,hm⟩|⟨hk,c,hc,hcell⟩
 ·exact wpAny_Name (wpAny_loadName_local I.ok.kind hk hn hm fin) hd
 ·rcases hk with hk|hk
  ·exact wpAny_Name (wpAny_loadName_cell I.ok.kind hk hc hcell fin) hd
  ·exact wpAny_Name (wpAny_loadName_free I.ok.kind hk hc hcell fin hcd) hd
theorem JL{i j pos}:PE X (.Constant (.int i) j pos) (tC (.int i)):=fun _ _ _ H _ I h=>wpAny_Constant_int ⟨.int i,H,I.tok _,⟨_,rfl⟩,h⟩
theorem pe_bl{b j pos}:PE X (.Constant (.bool b) j pos) (tC (.bl b)):=fun _ _ _ H _ I h=>Constant_bool ⟨.bl b,H,I,rfl,h⟩
theorem JK{j pos}:PE X (.Constant .none j pos) (tC .non):=fun _ _ _ H _ I h=>Constant_none ⟨.non,H,I,rfl,h⟩
theorem JI{x j pos}:PE X (.Constant (.str x) j pos) (tC (.str x)):=fun _ _ _ H _ I h=>Calls.Constant_str ⟨.str x,H,I.tok _,⟨_,rfl⟩,h⟩
noncomputable def Gl(X:Cx)(x:Str):Prop:=X.env.kindOf x=some .globalImplicit
theorem wT{E:Value→Shared→Prop}{pins:List (Addr×Obj)}{s:Shared}{σ:St}{H:Hp}{x:Str}{u:Value}{pos:Pos}{Q:Value→Shared→Prop}(I:Inv X pins σ H s)(hg:Gl X x)(hm:X.mg x=some u)(h:Q u s)
  (hd:(x==("__debug__" : Str))=false:=by decide):wpAny (model X.prog X.w) X.A (eval (.Name x pos) X.env) Q E s:=
 Calls.Name_function_global I.ok.kind hg (Calls.loadGlobal_global (by rw[I.ok.glob];exact I.mod.glob.keeps I.bk) hm h) hd
theorem jl{E:Value→Shared→Prop}{pins:List (Addr×Obj)}{s:Shared}{σ:St}{H:Hp}{x:Str}{u:Value}{pos:Pos}{Q:Value→Shared→Prop}(I:Inv X pins σ H s)(hg:Gl X x)(hm:X.mg x=none)(hv:bootBuiltins x=some u)(h:Q u s)
  (hn:x ≠ "__name__" := by decide) (hd:(x==("__debug__" : Str))=false:=by decide):wpAny (model X.prog X.w) X.A (eval (.Name x pos) X.env) Q E s:=by
 obtain⟨mb,h1,h2⟩:=I.mod.blt
 exact Calls.Name_function_global I.ok.kind hg (Calls.loadGlobal_builtin (by rw[I.ok.glob];exact I.mod.glob.keeps I.bk) hm (by rw[I.ok.blt];exact h1.keeps I.bk) ((h2 x hn).trans hv) h) hd
theorem uD{x:Str}{v:V}{u:Value}{pos:Pos}(hg:Gl X x)(hm:X.mg x=some u)(r:RelV v u)(hd:(x==("__debug__" : Str))=false:=by decide):PE X (.Name x pos) (tC v):=
 fun _ _ _ H _ I h=>wT I hg hm ⟨v,H,I,r,h⟩ hd
theorem Y7{x:Str}{v:V}{u:Value}{pos:Pos}(hg:Gl X x)(hm:X.mg x=none)(hv:bootBuiltins x=some u)(r:RelV v u)(hn:x ≠ "__name__" := by decide)(hd:(x==("__debug__" : Str))=false:=by decide):PE X (.Name x pos) (tC v):=
 fun _ _ _ H _ I h=>jl I hg hm hv ⟨v,H,I,r,h⟩ hn hd
variable{a b:Expr}{ta tb:TE}{pos:Pos}
noncomputable def tB(t:TE):TT:=fun σ H Q=>t σ H fun x H1=>∃c,x=.bl c∧Q c H1
variable{tA tB':TT}{xm:List Expr}
noncomputable def tAnd(t u:TT):TT:=fun σ H Q=>t σ H fun c H1=>if c=true then u σ H1 Q else Q false H1
noncomputable def tOr(t u:TT):TT:=fun σ H Q=>t σ H fun c H1=>if c=true then Q true H1 else u σ H1 Q
noncomputable def tNot(t:TT):TT:=fun σ H Q=>t σ H fun c H1=>Q (!c) H1
theorem V0(ha:PT X a tA):PW X (.BoolOp .And [a] pos) tA:=by
 intro wh pins s σ H Q I h
 refine isTrue_and (thn (ha pins s σ H Q I h) fun c s1 e=>?_)
 cases c with
 |true=>exact isTrue_and_nil e
 |false=>exact e
theorem Jz(ha:PT X a tA):PW X (.BoolOp .Or [a] pos) tA:=by
 intro wh pins s σ H Q I h
 refine isTrue_or (thn (ha pins s σ H Q I h) fun c s1 e=>?_)
 cases c with
 |false=>exact isTrue_or_nil e
 |true=>exact e
theorem JA(ha:PT X a tA)(hb:PW X (.BoolOp .And (b::xm) pos) tB'):PW X (.BoolOp .And (a::b::xm) pos) (tAnd tA tB'):=by
 intro wh pins s σ H Q I h
 refine isTrue_and (thn (ha pins s σ H _ I h) fun c s1 z_=>?_)
 obtain⟨H1,I1,q1⟩:=z_
 cases c with
 |true=>exact hb wh pins s1 σ H1 Q I1 q1
 |false=>exact⟨H1,I1,q1⟩
theorem pw_or(ha:PT X a tA)(hb:PW X (.BoolOp .Or (b::xm) pos) tB'):PW X (.BoolOp .Or (a::b::xm) pos) (tOr tA tB'):=by
 intro wh pins s σ H Q I h
 refine isTrue_or (thn (ha pins s σ H _ I h) fun c s1 z_=>?_)
 obtain⟨H1,I1,q1⟩:=z_
 cases c with
 |true=>exact⟨H1,I1,q1⟩
 |false=>exact hb wh pins s1 σ H1 Q I1 q1
theorem JB(ha:PT X a tA):PT X (.UnaryOp .Not a pos) (tNot tA):=by
 intro pins s σ H Q I h
 exact isTrue_not (ha pins s σ H (fun c H1=>Q (!c) H1) I h)
theorem JJ{op}{t:TE}(h:PE X a t):PE X (.BoolOp op [a] pos) t:=fun pins s σ H Q I hw=>BoolOp_one (h pins s σ H Q I hw)
noncomputable def tIf(t:TT)(ta tb:TE):TE:=fun σ H Q=>t σ H fun c H1=>if c=true then ta σ H1 Q else tb σ H1 Q
theorem WB{c:Expr}(hc:PT X c tA)(ha:PE X a ta)(hb:PE X b tb):PE X (.IfExp c a b pos) (tIf tA ta tb):=by
 intro pins s σ H Q I h
 refine wpAny_IfExp (thn (hc pins s σ H _ I h) fun d s1 z_=>?_)
 obtain⟨H1,I1,q1⟩:=z_
 cases d with
 |true=>exact ha pins s1 σ H1 Q I1 q1
 |false=>exact hb pins s1 σ H1 Q I1 q1
end
noncomputable def SqL(K:Frag)(H:Hp)(a:Addr)(xs:List V):Prop:=
 Rd H a (.lst xs) ∨
  ∃(o:Obj) (its:Array Value) (n:Nat),K.lookup a=some o∧o.cls=.type "list" ∧ o.dict=none∧o.data=.seq its n∧its.size≤sizeLine∧Vals xs its.toList
noncomputable def SqT(K:Frag)(H:Hp)(a:Addr)(xs:List V):Prop:=
 Rd H a (.tup xs) ∨
  ∃(o:Obj) (its:Array Value) (n:Nat),K.lookup a=some o∧o.cls=.type "tuple" ∧ o.data=.seq its n∧its.size≤sizeLine∧Vals xs its.toList
noncomputable def absV:Value→Option V
 |.none=>some .non
 |.bool b=>some (.bl b)
 |.int i _=>some (.int i)
 |.str x _=>some (.str x)
 |.bytes b _=>some (.byt b)
 |.float b _=>some (.flt b)
 |.ref a=>some (.ref a)
 |.type n=>some (.ty n)
 |_=>none
theorem RelV.abs{x:V}{u:Value}(r:RelV x u):absV u=some x:=by
 cases x with
 |non=>cases r;rfl
 |bl _=>cases r;rfl
 |int _=>obtain⟨t,rfl⟩:=r;rfl
 |str _=>obtain⟨t,rfl⟩:=r;rfl
 |byt _=>obtain⟨t,rfl⟩:=r;rfl
 |flt _=>obtain⟨t,rfl⟩:=r;rfl
 |ref _=>cases r;rfl
 |ty _=>cases r;rfl
theorem RelV.inj{x y:V}{u:Value}(r:RelV x u)(q:RelV y u):x=y:=Option.some.inj (r.abs.symm.trans q.abs)
theorem Vals.inj:∀{xs ys:List V} {us:List Value},Vals xs us→Vals ys us→xs=ys
 |_,_,_,.nil,.nil=>rfl
 |_,_,_,.cons r t,.cons r' t'=>by rw[r.inj r',Vals.inj t t']
section
variable{X:Cx}{pins:List (Addr×Obj)}{σ:St}{H:Hp}{s:Shared}{a:Addr}{xs ys:List V}
theorem SqL.of{K:Frag}(h:H a=some (.lst xs)):SqL K H a xs:=.inl (.inl h)
theorem SqT.of{K:Frag}(h:H a=some (.tup xs)):SqT K H a xs:=.inl (.inl h)
theorem Inv.list(I:Inv X pins σ H s)(h:SqL X.K H a xs):∃its:List Value,Vals xs its∧PlainL s.heap a its.toArray∧xs.length≤sizeLine:=by
 rcases h with h|⟨o,its,n,hk,hc,hd,hs,hz,r⟩
 ·obtain⟨z,its,n,r,e⟩:=h.ok I.hok
  exact⟨its,r,⟨_,n,e,rfl,rfl,rfl⟩,z⟩
 ·refine⟨its.toList,r,⟨o,n,I.kIn a o hk,hc,hd,by simpa using hs⟩,?_⟩
  have e:=r.length
  simp only[Array.length_toList] at e
  lia
theorem Inv.tuple(I:Inv X pins σ H s)(h:SqT X.K H a xs):∃its:List Value,Vals xs its∧IsTup s.heap a its.toArray∧xs.length≤sizeLine:=by
 rcases h with h|⟨o,its,n,hk,hc,hs,hz,r⟩
 ·obtain⟨z,its,r,p⟩:=h.ok I.hok
  exact⟨its,r,p,z⟩
 ·refine⟨its.toList,r,⟨o,I.kIn a o hk,hc,n,by simpa using hs⟩,?_⟩
  have e:=r.length
  simp only[Array.length_toList] at e
  lia
theorem Inv.list_inj(I:Inv X pins σ H s)(h:SqL X.K H a xs)(h':SqL X.K H a ys):xs=ys:=by
 obtain⟨its,r,⟨o,n,e,_,_,d⟩,_⟩:=I.list h
 obtain⟨its',r',⟨o',n',e',_,_,d'⟩,_⟩:=I.list h'
 rw[e] at e';cases e'
 rw[d] at d'
 injection d' with d1 _
 have:its=its':=by simpa using congrArg Array.toList d1
 subst this
 exact r.inj r'
theorem Inv.tuple_inj(I:Inv X pins σ H s)(h:SqT X.K H a xs)(h':SqT X.K H a ys):xs=ys:=by
 obtain⟨its,r,⟨o,e,_,n,d⟩,_⟩:=I.tuple h
 obtain⟨its',r',⟨o',e',_,n',d'⟩,_⟩:=I.tuple h'
 rw[e] at e';cases e'
 rw[d] at d'
 injection d' with d1 _
 have:its=its':=by simpa using congrArg Array.toList d1
 subst this
 exact r.inj r'
end
noncomputable abbrev Cx.wish(X:Cx)(E:Value→Shared→Prop):Cx:={ X with xe:=E }
noncomputable abbrev Cx.nox(X:Cx):Cx:=X.wish fun _ _=>False
theorem Cx.Ok.wish{X:Cx}(ok:X.Ok)(E:Value→Shared→Prop):(X.wish E).Ok:=
 ⟨ok.mod,ok.kind,ok.glob,ok.blt,ok.above,ok.inj,ok.has,ok.cab,ok.hd,ok.frames,ok.stk,ok.exf,ok.bs,ok.bsz,ok.noex,ok.exfs,ok.funs,ok.frf⟩
theorem Cx.Ok.unwish{X:Cx}{E:Value→Shared→Prop}(ok:(X.wish E).Ok):X.Ok:=
 ⟨ok.mod,ok.kind,ok.glob,ok.blt,ok.above,ok.inj,ok.has,ok.cab,ok.hd,ok.frames,ok.stk,ok.exf,ok.bs,ok.bsz,ok.noex,ok.exfs,ok.funs,ok.frf⟩
section
variable{X:Cx}{pins:List (Addr×Obj)}{σ:St}{H:Hp}{s:Shared}{E:Value→Shared→Prop}
theorem Inv.wish(I:Inv X pins σ H s)(E:Value→Shared→Prop):Inv (X.wish E) pins σ H s:=⟨I.ok.wish E,I.os,I.bare,I.base,I.loc,I.cell,I.free,I.freeC,I.pin,I.hok,I.len⟩
theorem Inv.unwish(I:Inv (X.wish E) pins σ H s):Inv X pins σ H s:=⟨I.ok.unwish,I.os,I.bare,I.base,I.loc,I.cell,I.free,I.freeC,I.pin,I.hok,I.len⟩
theorem SP.unwish{D:Yq}{f:Flow}{s':Shared}(h:SP (X.wish E) pins D f s'):SP X pins D f s':=by
 cases f with
 |next=>obtain⟨σ',H',I,q⟩:=h;exact⟨σ',H',I.unwish,q⟩
 |brk=>obtain⟨σ',H',I,q⟩:=h;exact⟨σ',H',I.unwish,q⟩
 |cont=>obtain⟨σ',H',I,q⟩:=h;exact⟨σ',H',I.unwish,q⟩
 |ret u=>obtain⟨v,σ',H',I,r,q⟩:=h;exact⟨v,σ',H',I.unwish,r,q⟩
theorem PSs.nox{st:List Stmt}{t:TS}(h:PSs X.nox st t):PSs X st t:=fun pins s σ H D I hw=>
 wpAny_mono (h pins s σ H D (I.wish _) hw) (fun _ _ q=>q.unwish) fun _ _ z=>False.elim z
end
section
variable{X:Cx}{st:Stmt}{xm:List Stmt}{t u:TS}{e:Expr}{te:TE}{pos:Pos}
noncomputable def tNext:TS:=fun D σ H=>D.nx σ H
noncomputable def tSeq(t u:TS):TS:=fun D σ H=>t { D with nx:=u D } σ H
theorem V5:PSs X [] tNext:=fun _ _ σ H _ I h=>wpAny_execs_nil ⟨σ,H,I,h⟩
theorem Ww(h1:PS X st t)(h2:PSs X xm u):PSs X (st::xm) (tSeq t u):=by
 intro pins s σ H D I h
 refine wpAny_execs_cons (thn (h1 pins s σ H { D with nx:=u D } I h) fun f s1 q=>?_)
 cases f with
 |next=>
  obtain⟨σ',H',I',q⟩:=q
  exact h2 pins s1 σ' H' D I' q
 |ret v=>exact q
 |brk=>exact q
 |cont=>exact q
theorem V4(h1:PS X st t):PSs X [st] t:=by
 intro pins s σ H D I h
 refine wpAny_execs_cons (thn (h1 pins s σ H D I h) fun f s1 q=>?_)
 cases f with
 |next=>exact wpAny_execs_nil q
 |ret v=>exact q
 |brk=>exact q
 |cont=>exact q
theorem Inv.quiet{pins:List (Addr×Obj)}{σ:St}{H:Hp}{s:Shared}(I:Inv X pins σ H s):interactive X.env=false:=by simp[interactive,I.ok.kind]
noncomputable def tDrop(te:TE):TS:=fun D σ H=>te σ H fun _ H1=>D.nx σ H1
theorem V6(he:PE X e te)(hs:swapsWith e none pos.line X.env=pure false:=by rfl):PS X (.Expr e pos) (tDrop te):=by
 intro pins s σ H D I h
 exact wpAny_Expr_any (thn (he pins s σ H _ I h) fun v s1 ⟨x,H1,I1,r1,q1⟩=>⟨σ,H1,I1,q1⟩) I.quiet hs
noncomputable def tRet(te:TE):TS:=fun D σ H=>te σ H D.rt
theorem Zl(he:PE X e te):PS X (.Return (some e) pos) (tRet te):=by
 intro pins s σ H D I h
 exact wpAny_Return_some (thn (he pins s σ H _ I h) fun v s1 ⟨x,H1,I1,r1,q1⟩=>⟨x,σ,H1,I1,r1,q1⟩)
noncomputable def tIfS(c:TT)(t u:TS):TS:=fun D σ H=>c σ H fun b H1=>if b=true then t D σ H1 else u D σ H1
theorem ps_if{c:Expr}{a b:List Stmt}{tc:TT}(hc:PT X c tc)(ha:PSs X a t)(hb:PSs X b u):PS X (.If c a b pos) (tIfS tc t u):=by
 intro pins s σ H D I h
 refine wpAny_If (thn (hc pins s σ H _ I h) fun d s1 z_=>?_)
 obtain⟨H1,I1,q1⟩:=z_
 cases d with
 |true=>exact ha pins s1 σ H1 D I1 q1
 |false=>exact hb pins s1 σ H1 D I1 q1
end
noncomputable abbrev TG:=V→St→Hp→(St→Hp→Prop)→Prop
noncomputable abbrev TGs:=List V→St→Hp→(St→Hp→Prop)→Prop
noncomputable def PG(X:Cx)(target:Expr)(t:TG):Prop:=
 ∀(pins:List (Addr×Obj)) (s:Shared) (σ:St) (H:Hp) (v:V) (u:Value) (Q:St→Hp→Prop),Inv X pins σ H s→RelV v u→t v σ H Q →
  wpAny (model X.prog X.w) X.A (assign target X.env u) (fun _ s'=>∃σ' H',Inv X pins σ' H' s'∧Q σ' H') X.xe s
noncomputable def PGs(X:Cx)(ts:List Expr)(t:TGs):Prop:=
 ∀(pins:List (Addr×Obj)) (s:Shared) (σ:St) (H:Hp) (vs:List V) (us:List Value) (Q:St→Hp→Prop),Inv X pins σ H s→Vals vs us→t vs σ H Q →
  wpAny (model X.prog X.w) X.A (assignInOrder ((assignEach ts X.env).map (·.2)) us) (fun _ s'=>∃σ' H',Inv X pins σ' H' s'∧Q σ' H') X.xe s
noncomputable abbrev Qr:=V→V→V→Hp→(Hp→Prop)→Prop
noncomputable def PSet(X:Cx)(t:Qr):Prop:=
 ∀(pins:List (Addr×Obj)) (s:Shared) (σ:St) (H:Hp) (o i v:V) (ov iv u:Value) (Q:Hp→Prop),Inv X pins σ H s→RelV o ov→RelV i iv→RelV v u→t o i v H Q →
  wpAny (model X.prog X.w) X.A (setItem ov iv u) (fun _ s'=>∃H',Inv X pins σ H' s'∧Q H') X.xe s
section
variable{X:Cx}{pos:Pos}
noncomputable def j3(i:Nat):TG:=fun v σ H Q=>Q (σ.set i (some v)) H
theorem Zm{i:Nat}{x:Str}(hN:X.N.Nodup)(hi:X.N[i]?=some x)(hx:Loc X.env.scope x)(hf:X.fn x=true∨X.env.scope.names.lookup x=some .local:=by first|exact .inl rfl|exact .inr rfl|assumption):PG X (.Name x pos) (j3 i):=by
 intro pins s σ H v u Q I r h
 exact wpAny_assign_Name (uR I hN hi hx r (fun s' I'=>⟨_,H,I',h⟩) hf)
noncomputable def gNil:TGs:=fun vs σ H Q=>vs=[]∧Q σ H
noncomputable def gCons(t:TG)(u:TGs):TGs:=fun vs σ H Q=>∃v r,vs=v::r∧t v σ H fun σ' H'=>u r σ' H' Q
theorem Uc:PGs X [] gNil:=by
 intro pins s σ H vs us Q I r h
 obtain⟨e,h⟩:=h
 subst e
 cases r
 exact assignInOrder_nil ⟨σ,H,I,h⟩
theorem Z2{e:Expr}{es:List Expr}{t:TG}{u:TGs}(h1:PG X e t)(h2:PGs X es u)
  (hs:(assignEach (e::es) X.env).map (·.2)=assign e X.env::(assignEach es X.env).map (·.2):=by rfl):PGs X (e::es) (gCons t u):=by
 intro pins s σ H vs us Q I r h
 obtain⟨v,vr,e1,h⟩:=h
 subst e1
 cases r with
 |cons r rr=>
  rw[hs]
  refine assignInOrder_cons (thn (h1 pins s σ H _ _ _ I r h) fun _ s1 z_=>?_)
  obtain⟨σ1,H1,I1,q1⟩:=z_
  exact h2 pins s1 σ1 H1 _ _ Q I1 rr q1
noncomputable def gTup(K:Frag)(n:Nat)(t:TGs):TG:=fun v σ H Q=>∃a xs,v=.ref a∧SqT K H a xs∧xs.length=n∧t xs σ H Q
theorem JF{es:List Expr}{k:Nat}{t:TGs}{n:Nat}(hc:X.calm=true)(h:PGs X es t)
  (hn:(assignEach es X.env).length=n:=by rfl) (hst:(assignEach es X.env).findIdx? (·.1)=none:=by rfl):PG X (.Tuple es k pos) (gTup X.K n t):=by
 intro pins s σ H v u Q I r hw
 obtain⟨a,xs,e1,hq,hl,hw⟩:=hw
 subst e1
 cases r
 obtain⟨its,rv,ht,hz⟩:=I.tuple hq
 refine assign_Tuple_tuple (I.ok.hd hc) ht (by simp[hn,← hl,rv.length]) hst fun h' hx=>?_
 have I1:Inv X pins σ H { s with heap:=h' }:=I.kept (t':=s.toks) fun b o e=>hx b o (ne_of_lt (Heap.lt_size e)) e
 exact h pins _ σ H xs _ Q I1 (by simpa using rv) hw
noncomputable def gSub(to ti:TE)(t:Qr):TG:=fun v σ H Q=>to σ H fun o H1=>ti σ H1 fun i H2=>t o i v H2 fun H3=>Q σ H3
theorem JG{o i:Expr}{to ti:TE}{t:Qr}(ho:PE X o to)(hi:PE X i ti)(hs:PSet X t)
  (ha:∀v,assign (.Subscript o i pos) X.env v=(do
   let ov ← holding [v] (eval o X.env)
   let iv ← holding [v,ov] (eval i X.env)
   standAt pos
   holding [v,ov,iv] (setItem ov iv v)
   release [v,ov,iv] []):=by intro _;rfl):PG X (.Subscript o i pos) (gSub to ti t):=by
 intro pins s σ H v u Q I r h
 rw[ha]
 refine wpAny_bind (wpAny_holding (thn (ho pins s σ H _ I h) fun ov s1 z_=>?_))
 obtain⟨x,H1,I1,r1,q1⟩:=z_
 refine wpAny_bind (wpAny_holding (thn (hi pins s1 σ H1 _ I1 q1) fun iv s2 z_=>?_))
 obtain⟨y,H2,I2,r2,q2⟩:=z_
 refine wpAny_bind (wpAny_standAt (wpAny_bind (wpAny_holding (thn (hs pins s2 σ H2 x y v ov iv u _ I2 r1 r2 r q2) fun _ s3 z_=>?_))))
 obtain⟨H3,I3,q3⟩:=z_
 exact wpAny_release ⟨σ,H3,I3,q3⟩
noncomputable def Ju(te:TE)(g:TG):TS:=fun D σ H=>te σ H fun x H1=>g x σ H1 D.nx
theorem JD{tg e:Expr}{te:TE}{g:TG}(he:PE X e te)(hg:PG X tg g)(hs:swapsWithSole [tg] e pos.line X.env=pure false:=by rfl)(hw:swappedStores [tg] e X.env=pure none:=by rfl)
  (h1:(assignEach [tg] X.env).map (·.2)=[assign tg X.env]:=by rfl):PS X (.Assign [tg] e pos) (Ju te g):=by
 intro pins s σ H D I h
 refine wpAny_Assign_stores (thn (he pins s σ H _ I h) fun v s1 z_=>?_) hs hw
 obtain⟨x,H1,I1,r1,q1⟩:=z_
 rw[h1]
 exact thn (hg pins s1 σ H1 x v _ I1 r1 q1) fun _ s2 q=>q
theorem Wx{i:Nat}{x:Str}{e:Expr}{te:TE}{pos':Pos}(hN:X.N.Nodup)(hi:X.N[i]?=some x)(hx:Loc X.env.scope x)(he:PE X e te)(hs:swapsWith e (some (.Name x pos')) pos.line X.env=pure false:=by rfl)(hf:X.fn x=true∨X.env.scope.names.lookup x=some .local:=by first|exact .inl rfl|exact .inr rfl|assumption) :
  PS X (.Assign [.Name x pos'] e pos) (Ju te (j3 i)):=by
 intro pins s σ H D I h
 refine wpAny_Assign_Name (thn (he pins s σ H _ I h) fun v s1 z_=>?_) hs
 obtain⟨y,H1,I1,r1,q1⟩:=z_
 exact uR I1 hN hi hx r1 (fun s2 I2=>⟨_,H1,I2,q1⟩) hf
end
section
variable{X:Cx}{pos:Pos}
end
structure It where
 go:Nat→Hp→Prop
 yld:Nat→Hp→V→Hp→Prop
 stop:Nat→Hp→Prop
noncomputable def vU(X:Cx)(pins:List (Addr×Obj))(H:Hp)(b:Addr):Prop:=
 H b=none∧b≠X.env.locals∧b∉X.fs∧(b∈X.ex∨X.s₀.heap.objs.size≤b)∧(∀x c,X.env.cells.lookup x=some c→c≠b)∧∀p∈X.pn++pins,p.1≠b
theorem Inv.fpOk{X:Cx}{pins:List (Addr×Obj)}{σ:St}{H H':Hp}{s:Shared}{b:Addr}(I:Inv X pins σ H s)(hb:s.heap.objs.size≤b)(hn:H' b=none):vU X pins H' b:=by
 refine⟨hn,ne_of_gt (lt_of_lt_of_le I.lt hb),I.nofs hb,.inr (le_trans I.sz hb),fun x c e z=>?_,fun p hp z=>?_⟩
 ·obtain⟨v,q⟩:=I.cell x c e
  exact absurd (lt_of_lt_of_le q.lt (by rw[z];exact hb)) (lt_irrefl _)
 ·exact absurd (lt_of_lt_of_le (Heap.lt_size (I.pin p hp).1) (by rw[z];exact hb)) (lt_irrefl _)
structure ZM(P:Program)(w:World)(K:Frag)(tg:Expr)(J:It)(fp:List Addr)(it:Addr)(tn:Nat→Heap→Prop):Prop where
 mem:it∈fp
 obj:∀i h,tn i h→∀b∈fp,∃o,h.get? b=some o∧∀v,o.data≠.cell v
 keep:∀i h h',tn i h→(∀b∈fp,∀o,h.get? b=some o→h'.get? b=some o)→tn i h'
 item:∀(X:Cx),X.prog=P→X.w=w→X.K=K→X.calm=true→∀(i:Nat) (pins:List (Addr×Obj)) (s:Shared) (σ:St) (H:Hp) (E:Value→Shared→Prop),Inv X pins σ H s→(∀b∈fp,vU X pins H b)→tn i s.heap→J.go i H →
  wpAny (model P w) X.A (pyNext (.ref it)) (fun r s1=>∃u,r=some u ∧
   wpAny (model P w) X.A (letOwnedTupleGo tg (.ref it) u) (fun _ s2=>∃x H',Inv X pins σ H' s2∧RelV x u∧J.yld i H x H'∧tn (i+1) s2.heap∧∀b∈fp,H' b=none) E s1) E s
 done:∀(X:Cx),X.prog=P→X.w=w→X.K=K→X.calm=true→∀(i:Nat) (pins:List (Addr×Obj)) (s:Shared) (σ:St) (H:Hp) (E:Value→Shared→Prop),Inv X pins σ H s→(∀b∈fp,vU X pins H b)→tn i s.heap→J.stop i H →
  wpAny (model P w) X.A (pyNext (.ref it)) (fun r s1=>r=none∧Inv X pins σ H s1) E s
 self:∀(A:Around) (i:Nat) (s:Shared) (Q:Value→Shared→Prop) (E:Value→Shared→Prop),tn i s.heap→Q (.ref it) s→wpAny (model P w) A (pyIter (.ref it)) Q E s
noncomputable abbrev TI:=St→Hp→(It→Hp→Prop)→Prop
noncomputable def PIE(X:Cx)(pins:List (Addr×Obj))(σ:St)(tg:Expr)(R:It→Hp→Prop)(itv:Value)(s2:Shared):Prop:=
 ∃(it:Addr) (fp:List Addr) (tn:Nat→Heap→Prop) (J:It) (H':Hp),itv=.ref it∧Inv X pins σ H' s2∧ZM X.prog X.w X.K tg J fp it tn∧tn 0 s2.heap∧(∀b∈fp,vU X pins H' b)∧R J H'
noncomputable def PI(X:Cx)(tg iter:Expr)(wi:TI):Prop:=
 ∀(pins:List (Addr×Obj)) (s:Shared) (σ:St) (H:Hp) (R:It→Hp→Prop),Inv X pins σ H s→wi σ H R →
  wpAny (model X.prog X.w) X.A (eval iter X.env) (fun v s1=>wpAny (model X.prog X.w) X.A (pyIter v) (PIE X pins σ tg R) X.xe s1) X.xe s
theorem Xl{M:Model}{A:Around}{E:Value→Shared→Prop}{s:Shared}{tg:Expr}{it:Addr}{u:Value}{o:Obj}{n:String}{vs:Array Value}{Q:Unit→Shared→Prop}(ho:s.heap.get? it=some o)(hc:o.cls=.type n)(hd:o.data=.fields vs)
  (hn:["enumerate", "zip", "dict_itemiterator", "dict_reverseitemiterator", "odict_iterator", "itertools.zip_longest", "itertools.pairwise"].contains n=false) (hQ:Q () s):wpAny M A (letOwnedTupleGo tg (.ref it) u) Q E s:=by
 unfold letOwnedTupleGo
 cases tg <;> first
  | exact wpAny_pure hQ
  | (cases u <;> first
    | exact wpAny_pure hQ
    | (refine wpAny_bind (wpAny_load ho ?_)
       rw[hc,hd]
       show wpAny M A (if (["enumerate", "zip", "dict_itemiterator", "dict_reverseitemiterator", "odict_iterator", "itertools.zip_longest", "itertools.pairwise"].contains n&&vs[0]?==some (rawInt _))=true then _ else _) Q E s
       rw[if_neg (by intro h;rw[hn,Bool.false_and] at h;cases h)]
       exact wpAny_pure hQ))
noncomputable def Itl(K:Frag)(a:Addr):It:=
 ⟨fun i H=>∃xs x,SqL K H a xs∧xs[i]?=some x,fun i H x H'=>H'=H∧∀xs,SqL K H a xs→xs[i]?=some x,fun i H=>∃xs,SqL K H a xs∧xs.length≤i⟩
noncomputable def Itt(K:Frag)(a:Addr):It:=
 ⟨fun i H=>∃xs x,SqT K H a xs∧xs[i]?=some x,fun i H x H'=>H'=H∧∀xs,SqT K H a xs→xs[i]?=some x,fun i H=>∃xs,SqT K H a xs∧xs.length≤i⟩
noncomputable def Itr(lo:Int)(n:Nat):It:=⟨fun i _=>i<n,fun i H x H'=>H'=H∧x=.int (lo+i),fun i _=>n≤i⟩
theorem jK{P:Program}{w:World}{K:Frag}{tg:Expr}(a it:Addr):ZM P w K tg (Itl K a) [it] it (fun i h=>h.IsListIter it a i) where
 mem:=by simp
 obj:=fun i h st b hb=>by
  have e:b=it:=by simpa using hb
  subst e
  obtain⟨o,e,c,d⟩:=st
  exact⟨o,e,fun v z=>by rw[d] at z;cases z⟩
 keep:=fun i h h' st k=>st.at fun o e=>k it (by simp) o e
 item:=by
  intro X hP hw hK hc i pins s σ H E I hf st hg
  subst hP hw hK
  obtain⟨xs,x,hq,hx⟩:=hg
  obtain⟨its,rv,p,hz⟩:=I.list hq
  obtain⟨u,hu,ru⟩:=rv.get hx
  obtain⟨f0,f1,f2,f3,f4,f5⟩:=hf it (by simp)
  refine wpAny_pyNext_list_item st p.isList (x:=u) (by simpa using hu) fun h' st' sb=>?_
  have I1:Inv X pins σ H { s with heap:=h' }:=I.turned (t':=s.toks) (fun b o hb e=>(sb.2 b hb).trans e) f0 f1 f3 f4 f5
  obtain⟨o,e,c,d⟩:=id st'
  exact⟨u,rfl,Xl (s:={ s with heap:=h' }) e c d (by decide) ⟨x,H,I1,ru,⟨rfl,fun ys hy=>by rw[I.list_inj hy hq];exact hx⟩,st',fun b hb=>(hf b hb).1⟩⟩
 done:=by
  intro X hP hw hK hc i pins s σ H E I hf st hg
  subst hP hw hK
  obtain⟨xs,hq,hx⟩:=hg
  obtain⟨its,rv,p,hz⟩:=I.list hq
  obtain⟨f0,f1,f2,f3,f4,f5⟩:=hf it (by simp)
  have hl:=rv.length
  exact wpAny_pyNext_list_end (I.ok.hd hc) st p.isList (by simp;lia) fun h' eb=>⟨rfl,I.turned (t':=s.toks) (fun b o hb e=>eb b o hb e) f0 f1 f3 f4 f5⟩
 self:=fun _ _ _ _ _ st h=>wpAny_pyIter_listiter st h
theorem Yr{P:Program}{w:World}{K:Frag}{tg:Expr}(a it:Addr):ZM P w K tg (Itt K a) [it] it (fun i h=>h.IsTupleIter it a i) where
 mem:=by simp
 obj:=fun i h st b hb=>by
  have e:b=it:=by simpa using hb
  subst e
  obtain⟨o,e,c,d⟩:=st
  exact⟨o,e,fun v z=>by rw[d] at z;cases z⟩
 keep:=fun i h h' st k=>st.at fun o e=>k it (by simp) o e
 item:=by
  intro X hP hw hK hc i pins s σ H E I hf st hg
  subst hP hw hK
  obtain⟨xs,x,hq,hx⟩:=hg
  obtain⟨its,rv,p,hz⟩:=I.tuple hq
  obtain⟨u,hu,ru⟩:=rv.get hx
  obtain⟨f0,f1,f2,f3,f4,f5⟩:=hf it (by simp)
  refine wpAny_pyNext_tuple_item st (show s.heap.IsTuple a its.toArray from p) (x:=u) (by simpa using hu) fun h' st' sb=>?_
  have I1:Inv X pins σ H { s with heap:=h' }:=I.turned (t':=s.toks) (fun b o hb e=>(sb.2 b hb).trans e) f0 f1 f3 f4 f5
  obtain⟨o,e,c,d⟩:=id st'
  exact⟨u,rfl,Xl (s:={ s with heap:=h' }) e c d (by decide) ⟨x,H,I1,ru,⟨rfl,fun ys hy=>by rw[I.tuple_inj hy hq];exact hx⟩,st',fun b hb=>(hf b hb).1⟩⟩
 done:=by
  intro X hP hw hK hc i pins s σ H E I hf st hg
  subst hP hw hK
  obtain⟨xs,hq,hx⟩:=hg
  obtain⟨its,rv,p,hz⟩:=I.tuple hq
  obtain⟨f0,f1,f2,f3,f4,f5⟩:=hf it (by simp)
  have hl:=rv.length
  exact wpAny_pyNext_tuple_end (I.ok.hd hc) st (show s.heap.IsTuple a its.toArray from p) (by simp;lia) fun h' eb=>⟨rfl,I.turned (t':=s.toks) (fun b o hb e=>eb b o hb e) f0 f1 f3 f4 f5⟩
 self:=fun _ _ _ _ _ st h=>wpAny_pyIter_tupleiter st h
theorem Ys{P:Program}{w:World}{K:Frag}{tg:Expr}(it:Addr)(lo:Int)(n:Nat):ZM P w K tg (Itr lo n) [it] it (fun i h=>IsRangeIter h it (lo+(i:Nat)*1) ((n:Int)-(i:Nat)) 1) where
 mem:=by simp
 obj:=fun i h st b hb=>by
  have e:b=it:=by simpa using hb
  subst e
  exact⟨_,st,fun v z=>by
   have z':Data.fields _=Data.cell v:=z
   cases z'⟩
 keep:=fun i h h' st k=>k it (by simp) _ st
 item:=by
  intro X hP hw hK hc i pins s σ H E I hf st hg
  subst hP hw hK
  obtain⟨f0,f1,f2,f3,f4,f5⟩:=hf it (by simp)
  have W:=Walks.range (prog:=X.prog) (w:=X.w) (I.ok.hd hc) it lo 1 n
  refine W.item i s _ _ hg st fun v h' tk hv st' kk=>?_
  obtain⟨t,rfl⟩:=hv
  have I1:Inv X pins σ H { s with heap:=h',toks:=tk }:=I.turned (fun b o hb e=>kk b o (by simpa using hb) e) f0 f1 f3 f4 f5
  refine⟨_,rfl,Xl (s:={ s with heap:=h',toks:=tk }) (n := "range_iterator") st' rfl rfl (by decide) ⟨.int (lo+i),H,I1,⟨t,?_⟩,⟨rfl,rfl⟩,st',fun b hb=>(hf b hb).1⟩⟩
  rw[Int.mul_one]
 done:=by
  intro X hP hw hK hc i pins s σ H E I hf st hg
  subst hP hw hK
  obtain⟨f0,f1,f2,f3,f4,f5⟩:=hf it (by simp)
  exact wpAny_pyNext_range_end (I.ok.hd hc) st (by have:n≤i:=hg;lia) fun h' eb=>⟨rfl,I.turned (t':=s.toks) (fun b o hb e=>eb b o hb e) f0 f1 f3 f4 f5⟩
 self:=fun _ _ _ _ _ st h=>wpAny_pyIter_rangeiter st h
section
variable{X:Cx}{tg:Expr}
noncomputable def Jl(K:Frag)(tl:TE):TI:=fun σ H R=>tl σ H fun x H1=>∃a,x=.ref a∧(∃xs,SqL K H1 a xs)∧R (Itl K a) H1
theorem Ua{l:Expr}{tl:TE}(hl:PE X l tl):PI X tg l (Jl X.K tl):=by
 intro pins s σ H R I h
 refine thn (hl pins s σ H _ I h) fun v s1 z_=>?_
 obtain⟨x,H1,I1,r1,q1⟩:=z_
 obtain⟨a,e,⟨xs,hq⟩,q⟩:=q1
 subst e
 cases r1
 obtain⟨its,rv,p,hz⟩:=I1.list hq
 refine wpAny_pyIter_list p.isList ?_
 refine⟨s1.heap.objs.size,[s1.heap.objs.size],_,_,H1,rfl,I1.kept (t':=s1.toks) fun b o e=>get?_push_of_some _ e,jK a _,⟨_,Heap.get?_push_size _ rfl,rfl,rfl⟩,fun b hb=>?_,q⟩
 have e:b=s1.heap.objs.size:=by simpa using hb
 subst e
 exact I1.fpOk (le_refl _) (I1.hok.fresh (le_refl _))
theorem Wr{pins:List (Addr×Obj)}{σ:St}{H:Hp}{s:Shared}{R:It→Hp→Prop}{E:Value→Shared→Prop}{lo hi:Int}{t u v:Tok}{tk:Nat}(I:Inv X pins σ H s)(h1 : -(2 ^ 62)≤lo)(h2:lo<2 ^ 62)(h3 : -(2 ^ 62)≤hi)(h4:hi<2 ^ 62)
  (q:R (Itr lo (hi-lo).toNat) H):wpAny (model X.prog X.w) X.A (pyIter (.ref s.heap.objs.size)) (PIE X pins σ tg R) E { s with heap:=s.heap.push { cls:=.type "range", data:=.fields #[.int lo t,.int hi u,.int 1 v] },toks:=tk }:=by
 refine wpAny_pyIter_range (IsRange.new ..) (small_one h1 h2 h3 h4) ?_
 have I1:Inv X pins σ H { s with heap:=s.heap.push { cls:=.type "range", data:=.fields #[.int lo t,.int hi u,.int 1 v] },toks:=tk }:=I.kept fun b o e=>get?_push_of_some _ e
 refine⟨(s.heap.push { cls:=.type "range", data:=.fields #[.int lo t,.int hi u,.int 1 v] }).objs.size,[(s.heap.push { cls:=.type "range", data:=.fields #[.int lo t,.int hi u,.int 1 v] }).objs.size],_,_,H,rfl,
  I1.kept (t':=tk) fun b o e=>get?_push_of_some _ e,Ys _ lo (hi-lo).toNat,?_,fun b hb=>?_,q⟩
 ·have e1:lo+((0:Nat):Int)*1=lo:=by simp
  have e2:(((hi-lo).toNat:Nat):Int)-((0:Nat):Int)=Builtin.Range.rangeSize lo hi 1:=by rw[rangeSize_one];split <;> lia
  show IsRangeIter _ _ (lo+((0:Nat):Int)*1) ((((hi-lo).toNat:Nat):Int)-((0:Nat):Int)) 1
  rw[e1,e2]
  exact Heap.get?_push_size _ rfl
 ·have e:b=(s.heap.push { cls:=.type "range", data:=.fields #[.int lo t,.int hi u,.int 1 v] }).objs.size:=by simpa using hb
  subst e
  exact I1.fpOk (le_refl _) (I1.hok.fresh (le_refl _))
noncomputable def iRng1(ta:TA):TI:=fun σ H R=>ta σ H fun vs H1=>∃j:Int,vs=[.int j]∧-(2 ^ 62)≤j∧j<2 ^ 62∧R (Itr 0 j.toNat) H1
theorem XC{a:Expr}{ta:TA}{p pos:Pos}(hg:Gl X "range")(hm:X.mg "range" = none)(ha:PA X [a] ta)(hs:starEach [a] X.env=[(false,eval a X.env)]:=by rfl):PI X tg (.Call (.Name "range" p) [a] [] pos) (iRng1 ta):=by
 intro pins s σ H R I h
 refine Call_ (jl I hg hm boot_range (PyProof.Rows.callWith_type1 (thn (ha pos pins s σ H _ I h) fun us s1 z_=>?_) hs rfl))
 obtain⟨vs,H1,I1,r1,q1⟩:=z_
 obtain⟨j,e,q1,q2,q⟩:=q1
 subst e
 cases r1 with
 |cons r rr=>
  cases rr
  obtain⟨t,rfl⟩:=r
  exact call_range_1 (Wr I1 (by lia) (by lia) q1 q2 (by simpa using q))
noncomputable def tFor(wi:TI)(g:TG)(tb:TS):TS:=fun D σ H=>wi σ H fun J H1=>∃W:Nat→Nat→St→Hp→Prop,(∃m,W 0 m σ H1)∧∀i m σ H,W i m σ H →
 (J.stop i H∧D.nx σ H)∨(J.go i H∧∃N:St→Hp→Prop,(∀σ' H',N σ' H'→∃m',m'<m∧W (i+1) m' σ' H')∧∀x H',J.yld i H x H'→g x σ H' fun σ2 H2=>tb { D with nx:=N,ct:=N,bk:=D.nx } σ2 H2)
noncomputable def vd(fp:List Addr)(h:Heap):List (Addr×Obj):=fp.filterMap fun b=>(h.get? b).map fun o=>(b,o)
theorem yV{fp:List Addr}{h:Heap}{b:Addr}{o:Obj}(hb:b∈fp)(e:h.get? b=some o):(b,o)∈vd fp h:=List.mem_filterMap.mpr ⟨b,hb,by rw[e];rfl⟩
theorem XO{fp:List Addr}{h:Heap}{p:Addr×Obj}(hp:p∈vd fp h):p.1∈fp∧h.get? p.1=some p.2:=by
 obtain⟨b,hb,e⟩:=List.mem_filterMap.mp hp
 cases q:h.get? b with
 |none=>rw[q] at e;cases e
 |some o=>
  rw[q] at e
  have e':(b,o)=p:=Option.some.inj e
  subst e'
  exact⟨hb,q⟩
theorem Inv.pinned{pins:List (Addr×Obj)}{σ:St}{H:Hp}{s:Shared}{fp:List Addr}(I:Inv X pins σ H s)(hf:∀b∈fp,vU X pins H b)(ho:∀b∈fp,∃o,s.heap.get? b=some o∧∀v,o.data≠.cell v):Inv X (pins++vd fp s.heap) σ H s:=
 I.pins_of fun p hp=>(mem_append.mp hp).elim (fun z=>I.pin p (mem_append_right _ z)) fun z=>by
  obtain⟨hb,e⟩:=XO z
  obtain⟨f0,f1,f2,_⟩:=hf p.1 hb
  obtain⟨o,e',d⟩:=ho p.1 hb
  rw[e] at e';cases e'
  exact⟨e,f0,f1,f2,d⟩
theorem Inv.unpinned{pins pl:List (Addr×Obj)}{σ:St}{H:Hp}{s:Shared}(I:Inv X (pins++pl) σ H s):Inv X pins σ H s:=I.pins_of fun p hp=>I.pin p (mem_append_right _ (mem_append_left _ hp))
theorem JC{iter:Expr}{body:List Stmt}{wi:TI}{g:TG}{tb:TS}{pos:Pos}(hp:PassesOwn (model X.prog X.w) X.A X.env X.xe)(hc:X.calm=true)(hi:PI X tg iter wi)(hg:PG X tg g)(hb:PSs X body tb)
  (hs:∀x,foldedSetIterable iter X.env x=pure x:=by intro _;rfl):PS X (.For tg iter body [] pos) (tFor wi g tb):=by
 intro pins s σ H D I h
 refine wpAny_For (thn (hi pins s σ H _ I h) fun v s1 h1=>thn h1 fun itv s2 h2=>?_) hs
 obtain⟨it,fp,tn,J,H2,e,I2,T,st2,f2,W,⟨m0,w0⟩,turn⟩:=h2
 subst e
 have stat:∀{H':Hp},(∀b∈fp,H' b=none)→∀b∈fp,vU X pins H' b:=fun hn b hb=>⟨hn b hb,(f2 b hb).2⟩
 refine codeAny_forLoop_any (fun n s'=>∃i σ' H',Inv X pins σ' H' s'∧tn i s'.heap∧(∀b∈fp,H' b=none)∧W i n σ' H') ?_ m0 ⟨0,σ,H2,I2,st2,fun b hb=>(f2 b hb).1,w0⟩
 rintro n s3 ⟨i,σ3,H3,I3,st3,fr3,w3⟩
 rcases turn i n σ3 H3 w3 with ⟨stop,qn⟩|⟨go,N,hN,step⟩
 ·refine wpAny_passesOwn hp (thn (T.done X rfl rfl rfl hc i pins s3 σ3 H3 X.xe I3 (stat fr3) st3 stop) fun r s4 z_=>?_)
  obtain⟨hr,I4⟩:=z_
  subst hr
  exact wpAny_execs_nil ⟨σ3,H3,I4,qn⟩
 ·refine wpAny_passesOwn hp (thn (T.item X rfl rfl rfl hc i pins s3 σ3 H3 X.xe I3 (stat fr3) st3 go) fun r s4 z_=>?_)
  obtain⟨u,hr,h4⟩:=z_
  subst hr
  refine wpAny_passesOwn hp (thn h4 fun _ s5 z_=>?_)
  obtain⟨x,H5,I5,r5,y5,st5,fr5⟩:=z_
  have I5':=I5.pinned (stat fr5) (T.obj _ _ st5)
  refine wpAny_passesOwn hp (thn (hg _ s5 σ3 H5 x u _ I5' r5 (step x H5 y5)) fun _ s6 z_=>?_)
  obtain⟨σ6,H6,I6,q6⟩:=z_
  refine wpAny_passesOwn hp (thn (hb _ s6 σ6 H6 _ I6 q6) fun f s7 q7=>?_)
  have again:∀{σ7:St} {H7:Hp},Inv X (pins++vd fp s5.heap) σ7 H7 s7→N σ7 H7→∃m,m<n∧∃i σ' H',Inv X pins σ' H' s7∧tn i s7.heap∧(∀b∈fp,H' b=none)∧W i m σ' H':=fun {σ7 H7} I7 n7=>by
   obtain⟨m',hm,w7⟩:=hN σ7 H7 n7
   refine⟨m',hm,i+1,σ7,H7,I7.unpinned,T.keep _ _ _ st5 fun b hb o e=>(I7.pin (b,o) (mem_append_right _ (mem_append_right _ (yV hb e)))).1,fun b hb=>?_,w7⟩
   obtain⟨o,e,d⟩:=T.obj _ _ st5 b hb
   exact(I7.pin (b,o) (mem_append_right _ (mem_append_right _ (yV hb e)))).2.1
  cases f with
  |next=>obtain⟨σ7,H7,I7,n7⟩:=q7;exact again I7 n7
  |cont=>obtain⟨σ7,H7,I7,n7⟩:=q7;exact again I7 n7
  |brk=>obtain⟨σ7,H7,I7,q7⟩:=q7;exact⟨σ7,H7,I7.unpinned,q7⟩
  |ret v=>obtain⟨x7,σ7,H7,I7,r7,q7⟩:=q7;exact⟨x7,σ7,H7,I7.unpinned,r7,q7⟩
end
noncomputable abbrev R2:=V→V→Hp→VK→Prop
noncomputable def OpR(X:Cx)(f:Value→Value→Sem Value)(r:R2):Prop:=
 ∀(pins:List (Addr×Obj)) (s:Shared) (σ:St) (H:Hp) (x y:V) (v u:Value) (Q:VK),Inv X pins σ H s→RelV x v→RelV y u→r x y H Q →
  wpAny (model X.prog X.w) X.A (f v u) (EP X pins σ Q) X.xe s
noncomputable def UnR(X:Cx)(f:Value→Sem Value)(r:V→Hp→VK→Prop):Prop:=
 ∀(pins:List (Addr×Obj)) (s:Shared) (σ:St) (H:Hp) (x:V) (v:Value) (Q:VK),Inv X pins σ H s→RelV x v→r x H Q →
  wpAny (model X.prog X.w) X.A (f v) (EP X pins σ Q) X.xe s
noncomputable def CallR(X:Cx)(f:Value)(r:List V→Hp→VK→Prop):Prop:=
 ∀(pins:List (Addr×Obj)) (s:Shared) (σ:St) (H:Hp) (xs:List V) (us:List Value) (Q:VK),Inv X pins σ H s→Vals xs us→r xs H Q →
  wpAny (model X.prog X.w) X.A (call f us) (EP X pins σ Q) X.xe s
noncomputable def TruR(X:Cx)(r:V→Hp→(Bool→Hp→Prop)→Prop):Prop:=
 ∀(pins:List (Addr×Obj)) (s:Shared) (σ:St) (H:Hp) (x:V) (v:Value) (Q:Bool→Hp→Prop),Inv X pins σ H s→RelV x v→r x H Q →
  wpAny (model X.prog X.w) X.A (truthy v) (TP X pins σ Q) X.xe s
noncomputable def tOp(r:R2)(ta tb:TE):TE:=fun σ H Q=>ta σ H fun x H1=>tb σ H1 fun y H2=>r x y H2 Q
noncomputable def tUn(r:V→Hp→VK→Prop)(ta:TE):TE:=fun σ H Q=>ta σ H fun x H1=>r x H1 Q
noncomputable def rI(C:Int→Int→Prop)(g:Int→Int→V):R2:=fun x y H Q=>∃i j,x=.int i∧y=.int j∧C i j∧Q (g i j) H
noncomputable def rI0(g:Int→Int→V):R2:=fun x y H Q=>∃i j,x=.int i∧y=.int j∧Q (g i j) H
noncomputable def rU(g:Int→V):V→Hp→VK→Prop:=fun x H Q=>∃i,x=.int i∧Q (g i) H
section
variable{X:Cx}{a b c:Expr}{ta tb tc:TE}{pos:Pos}
theorem Qo(ha:PE X a ta)(hb:PE X b tb){pins:List (Addr×Obj)}{s:Shared}{σ:St}{H:Hp}{R:V→V→Hp→Prop}(I:Inv X pins σ H s)
  (h:ta σ H fun x H1=>tb σ H1 fun y H2=>R x y H2) {Q:Value→Shared→Prop} {f:Value→Value→Sem Value}
  (hf:∀v u s2 x y H2,Inv X pins σ H2 s2→RelV x v→RelV y u→R x y H2→wpAny (model X.prog X.w) X.A (f v u) Q X.xe s2) :
  wpAny (model X.prog X.w) X.A (eval a X.env) (fun v s₁=>wpAny (model X.prog X.w) X.A (eval b X.env) (fun u s₂=>wpAny (model X.prog X.w) X.A (f v u) Q X.xe s₂) X.xe s₁) X.xe s:=by
 refine thn (ha pins s σ H _ I h) fun v s1 z_=>?_
 obtain⟨x,H1,I1,r1,q1⟩:=z_
 refine thn (hb pins s1 σ H1 _ I1 q1) fun u s2 z_=>?_
 obtain⟨y,H2,I2,r2,q2⟩:=z_
 exact hf v u s2 x y H2 I2 r1 r2 q2
theorem pe_op{op:Operator}{r:R2}(ho:OpR X (binaryOp op) r)(ha:PE X a ta)(hb:PE X b tb):PE X (.BinOp a op b pos) (tOp r ta tb):=by
 intro pins s σ H Q I h
 exact wpAny_BinOp (Qo ha hb I h fun v u s2 x y H2 I2 rx ry q=>ho pins s2 σ H2 x y v u Q I2 rx ry q)
theorem pe_un{op:UnaryOp}{r:V→Hp→VK→Prop}(ho:UnR X (unaryOp op) r)(ha:PE X a ta):PE X (.UnaryOp op a pos) (tUn r ta):=by
 intro pins s σ H Q I h
 exact UnaryOp_ (thn (ha pins s σ H _ I h) fun v s1 ⟨x,H1,I1,r1,q1⟩=>ho pins s1 σ H1 x v Q I1 r1 q1)
theorem opI{f:Value→Value→Sem Value}{C:Int→Int→Prop}{g:Int→Int→Int}
  (rule:∀(i j:Int) (t u:Tok) (s:Shared) (Q:Value→Shared→Prop) (E:Value→Shared→Prop),C i j→Q (.int (g i j) s.toks) { s with toks:=s.toks+1 }→wpAny (model X.prog X.w) X.A (f (.int i t) (.int j u)) Q E s) :
  OpR X f (rI C fun i j=>.int (g i j)):=by
 intro pins s σ H x y v u Q I rx ry h
 obtain⟨i,j,rfl,rfl,hc,q⟩:=h
 obtain⟨t,rfl⟩:=rx
 obtain⟨t',rfl⟩:=ry
 exact rule i j t t' s _ _ hc ⟨.int (g i j),H,I.tok _,⟨_,rfl⟩,q⟩
theorem opI0{f:Value→Value→Sem Value}{g:Int→Int→Int}
  (rule:∀(i j:Int) (t u:Tok) (s:Shared) (Q:Value→Shared→Prop) (E:Value→Shared→Prop),Q (.int (g i j) s.toks) { s with toks:=s.toks+1 }→wpAny (model X.prog X.w) X.A (f (.int i t) (.int j u)) Q E s) :
  OpR X f (rI0 fun i j=>.int (g i j)):=by
 intro pins s σ H x y v u Q I rx ry h
 obtain⟨i,j,rfl,rfl,q⟩:=h
 obtain⟨t,rfl⟩:=rx
 obtain⟨t',rfl⟩:=ry
 exact rule i j t t' s _ _ ⟨.int (g i j),H,I.tok _,⟨_,rfl⟩,q⟩
theorem JU{f:Value→Value→Sem Value}{g:Int→Int→Bool}
  (rule:∀(i j:Int) (t u:Tok) (s:Shared) (Q:Value→Shared→Prop) (E:Value→Shared→Prop),Q (.bool (g i j)) s→wpAny (model X.prog X.w) X.A (f (.int i t) (.int j u)) Q E s) :
  OpR X f (rI0 fun i j=>.bl (g i j)):=by
 intro pins s σ H x y v u Q I rx ry h
 obtain⟨i,j,rfl,rfl,q⟩:=h
 obtain⟨t,rfl⟩:=rx
 obtain⟨t',rfl⟩:=ry
 exact rule i j t t' s _ _ ⟨.bl (g i j),H,I,rfl,q⟩
noncomputable def CDiv(i j:Int):Prop:=0<j∧j<1073741824
noncomputable def CMul(i j:Int):Prop:=(-(2 ^ 64)<i∧i<2 ^ 64)∨(-(2 ^ 64)<j∧j<2 ^ 64)
theorem CMul.ok{i j:Int}(h:CMul i j):IntMulOk i j:=by
 rcases h with ⟨h1,h2⟩|⟨h1,h2⟩
 ·exact .of_left (intBits_le_64 h1 h2)
 ·exact .of_right (intBits_le_64 h1 h2)
theorem op_add:OpR X (binaryOp .Add) (rI0 fun i j=>.int (i+j)):=opI0 fun _ _ _ _ _ _ _ q=>add_int q
theorem op_mul:OpR X (binaryOp .Mult) (rI CMul fun i j=>.int (i*j)):=opI fun _ _ _ _ _ _ _ hc q=>mul_int q hc.ok
theorem Up:OpR X (binaryOp .FloorDiv) (rI CDiv fun i j=>.int (i / j)):=opI fun i j _ _ _ _ _ hc q=>by
 have h1:(0:Int)<j:=hc.1
 have h2:j<1073741824:=hc.2
 exact floordiv_int (by lia) (by rw[Int.fdiv_eq_ediv_of_nonneg i (by lia)];exact q) (.inl (PyProof.noPylong_small (by lia)))
theorem JQ:OpR X (binaryOp .Mod) (rI (fun _ j=>0<j) fun i j=>.int (i%j)):=opI fun i j _ _ _ _ _ hc q=>by
 have h1:(0:Int)<j:=hc
 exact mod_int' (by lia) (by rw[Int.fmod_eq_emod_of_nonneg i (by lia)];exact q)
theorem unI{f:Value→Sem Value}{g:Int→Int}
  (rule:∀(i:Int) (t:Tok) (s:Shared) (Q:Value→Shared→Prop) (E:Value→Shared→Prop),Q (.int (g i) s.toks) { s with toks:=s.toks+1 }→wpAny (model X.prog X.w) X.A (f (.int i t)) Q E s) :
  UnR X f (rU fun i=>.int (g i)):=by
 intro pins s σ H x v Q I rx h
 obtain⟨i,rfl,q⟩:=h
 obtain⟨t,rfl⟩:=rx
 exact rule i t s _ _ ⟨.int (g i),H,I.tok _,⟨_,rfl⟩,q⟩
theorem Jq:UnR X (unaryOp .USub) (rU fun i=>.int (-i)):=unI fun _ _ _ _ _ q=>neg_int q
end
noncomputable def scal:V→V→Bool
 |.non,.non=>true | .non,.int _=>true | .int _,.non=>true | .non,.bl _=>true | .bl _,.non=>true | .non,.str _=>true | .str _,.non=>true
 |.int _,.int _=>true | .bl _,.bl _=>true | .str _,.str _=>true | .byt _,.byt _=>true
 |.int _,.str _=>true | .str _,.int _=>true | .bl _,.str _=>true | .str _,.bl _=>true
 |_,_=>false
noncomputable def rEq:R2:=fun x y H Q=>scal x y=true∧Q (.bl (decide (x=y))) H
noncomputable def rNe:R2:=fun x y H Q=>scal x y=true∧Q (.bl (!decide (x=y))) H
theorem uL{i j:Int}:decide (V.int i=V.int j)=(i==j):=by
 rw[Bool.eq_iff_iff]
 simp
theorem Vq{i j:Bool}:decide (V.bl i=V.bl j)=(i==j):=by
 rw[Bool.eq_iff_iff]
 simp
theorem uK{i j:Str}:decide (V.str i=V.str j)=(i==j):=by
 rw[Bool.eq_iff_iff]
 simp
theorem Xr{i j:Array UInt8}:decide (V.byt i=V.byt j)=(i.toList==j.toList):=by
 rw[Bool.eq_iff_iff]
 cases i
 cases j
 simp
section
variable{X:Cx}{a b c:Expr}{ta tb tc:TE}{pos:Pos}
theorem zF{pins:List (Addr×Obj)}{σ:St}{H:Hp}{s:Shared}{Q:VK}{k k':Bool}(I:Inv X pins σ H s)(q:Q (.bl k) H)(e:k=k'):EP X pins σ Q (.bool k') s:=by
 subst e
 exact⟨.bl k,H,I,rfl,q⟩
theorem op_eq:OpR X (compareOp .Eq) rEq:=by
 intro pins s σ H x y v u Q I rx ry h
 obtain⟨hs,q⟩:=h
 cases x with
 |non=>
  cases rx
  cases y with
  |non=>cases ry;exact PySem.EqNone.eq_none_none (zF I q (by simp))
  |bl j=>cases ry;exact PySem.EqNone.eq_none_bool (zF I q (by simp))
  |int j=>obtain⟨t',rfl⟩:=ry;exact PySem.EqNone.eq_none_int (zF I q (by simp))
  |str j=>obtain⟨t',rfl⟩:=ry;exact PySem.EqNone.eq_none_str (zF I q (by simp))
  |_=>exact absurd (show false=true from hs) Bool.false_ne_true
 |bl i=>
  cases rx
  cases y with
  |non=>cases ry;exact PySem.EqNone.eq_bool_none (zF I q (by simp))
  |bl j=>cases ry;exact eq_bool (zF I q Vq)
  |str j=>obtain⟨t',rfl⟩:=ry;exact PySem.EqMixed.eq_bool_str (zF I q (by simp))
  |_=>exact absurd (show false=true from hs) Bool.false_ne_true
 |int i=>
  obtain⟨t,rfl⟩:=rx
  cases y with
  |non=>cases ry;exact PySem.EqNone.eq_int_none (zF I q (by simp))
  |int j=>obtain⟨t',rfl⟩:=ry;exact eq_int (zF I q uL)
  |str j=>obtain⟨t',rfl⟩:=ry;exact PySem.EqMixed.eq_int_str (zF I q (by simp))
  |_=>exact absurd (show false=true from hs) Bool.false_ne_true
 |str i=>
  obtain⟨t,rfl⟩:=rx
  cases y with
  |non=>cases ry;exact PySem.EqNone.eq_str_none (zF I q (by simp))
  |bl j=>cases ry;exact PySem.EqMixed.eq_str_bool (zF I q (by simp))
  |int j=>obtain⟨t',rfl⟩:=ry;exact PySem.EqMixed.eq_str_int (zF I q (by simp))
  |str j=>obtain⟨t',rfl⟩:=ry;exact eq_str (zF I q uK)
  |_=>exact absurd (show false=true from hs) Bool.false_ne_true
 |byt i=>
  obtain⟨t,rfl⟩:=rx
  cases y with
  |byt j=>obtain⟨t',rfl⟩:=ry;exact PySem.W.eq_bytes (zF I q Xr)
  |_=>exact absurd (show false=true from hs) Bool.false_ne_true
 |_=>cases y <;> exact absurd (show false=true from hs) Bool.false_ne_true
theorem op_ne:OpR X (compareOp .NotEq) rNe:=by
 intro pins s σ H x y v u Q I rx ry h
 obtain⟨hs,q⟩:=h
 cases x with
 |non=>
  cases rx
  cases y with
  |non=>cases ry;exact PySem.EqNone.ne_none_none (zF I q (by simp))
  |bl j=>cases ry;exact PySem.EqNone.ne_none_bool (zF I q (by simp))
  |int j=>obtain⟨t',rfl⟩:=ry;exact PySem.EqNone.ne_none_int (zF I q (by simp))
  |str j=>obtain⟨t',rfl⟩:=ry;exact PySem.EqNone.ne_none_str (zF I q (by simp))
  |_=>exact absurd (show false=true from hs) Bool.false_ne_true
 |bl i=>
  cases rx
  cases y with
  |non=>cases ry;exact PySem.EqNone.ne_bool_none (zF I q (by simp))
  |bl j=>cases ry;exact ne_bool (zF I q (congrArg not Vq))
  |str j=>obtain⟨t',rfl⟩:=ry;exact PySem.EqMixed.ne_bool_str (zF I q (by simp))
  |_=>exact absurd (show false=true from hs) Bool.false_ne_true
 |int i=>
  obtain⟨t,rfl⟩:=rx
  cases y with
  |non=>cases ry;exact PySem.EqNone.ne_int_none (zF I q (by simp))
  |int j=>obtain⟨t',rfl⟩:=ry;exact ne_int (zF I q (congrArg not uL))
  |str j=>obtain⟨t',rfl⟩:=ry;exact PySem.EqMixed.ne_int_str (zF I q (by simp))
  |_=>exact absurd (show false=true from hs) Bool.false_ne_true
 |str i=>
  obtain⟨t,rfl⟩:=rx
  cases y with
  |non=>cases ry;exact PySem.EqNone.ne_str_none (zF I q (by simp))
  |bl j=>cases ry;exact PySem.EqMixed.ne_str_bool (zF I q (by simp))
  |int j=>obtain⟨t',rfl⟩:=ry;exact PySem.EqMixed.ne_str_int (zF I q (by simp))
  |str j=>obtain⟨t',rfl⟩:=ry;exact ne_str (zF I q (congrArg not uK))
  |_=>exact absurd (show false=true from hs) Bool.false_ne_true
 |byt i=>
  obtain⟨t,rfl⟩:=rx
  cases y with
  |byt j=>obtain⟨t',rfl⟩:=ry;exact PySem.W.ne_bytes (zF I q (congrArg not Xr))
  |_=>exact absurd (show false=true from hs) Bool.false_ne_true
 |_=>cases y <;> exact absurd (show false=true from hs) Bool.false_ne_true
theorem op_lt:OpR X (compareOp .Lt) (rI0 fun i j=>.bl (decide (i<j))):=JU fun _ _ _ _ _ _ _ q=>lt_int q
theorem op_le:OpR X (compareOp .LtE) (rI0 fun i j=>.bl (decide (i≤j))):=JU fun _ _ _ _ _ _ _ q=>le_int q
theorem op_gt:OpR X (compareOp .Gt) (rI0 fun i j=>.bl (decide (j<i))):=JU fun _ _ _ _ _ _ _ q=>gt_int q
theorem op_in_str:OpR X (compareOp .In) (fun x y H Q=>∃i j,x=.str i∧y=.str j∧Q (.bl (!(Builtin.Str.occurrences j i 0 j.length 1).isEmpty)) H):=by
 intro pins s σ H x y v u Q I rx ry h
 obtain⟨i,j,rfl,rfl,q⟩:=h
 obtain⟨t,rfl⟩:=rx
 obtain⟨t',rfl⟩:=ry
 exact in_str (zF I q rfl)
theorem Uo:OpR X (compareOp .IsNot) (fun x y H Q=>y=.non∧Q (.bl (!decide (x=.non))) H):=by
 intro pins s σ H x y v u Q I rx ry h
 obtain⟨rfl,q⟩:=h
 cases ry
 refine isnot_none_gen (zF I q ?_)
 cases x <;> first
  | (cases rx;rfl)
  | (obtain⟨t,rfl⟩:=rx;rfl)
theorem op_notin_str:OpR X (compareOp .NotIn) (fun x y H Q=>∃i j,x=.str i∧y=.str j∧Q (.bl (!(!(Builtin.Str.occurrences j i 0 j.length 1).isEmpty))) H):=by
 intro pins s σ H x y v u Q I rx ry h
 obtain⟨i,j,rfl,rfl,q⟩:=h
 obtain⟨t,rfl⟩:=rx
 obtain⟨t',rfl⟩:=ry
 exact notIn_str (zF I q rfl)
noncomputable def isObj:HO→Bool
 |.lst _=>true
 |.ins _ _ _=>true
 |_=>false
theorem obj_there{pins:List (Addr×Obj)}{s:Shared}{σ:St}{H:Hp}{a:Addr}{o:HO}(I:Inv X pins σ H s)(h:H a=some o)(p:isObj o=true):∃ob,s.heap.get? a=some ob∧ob.cls≠.type "tuple" := by
 cases o with
 |lst xs=>
  obtain⟨_,its,n,_,e⟩:xs.length≤sizeLine∧∃(its:List Value) (n:Nat),Vals xs its∧s.heap.get? a=some { cls:=.type "list", data:=.seq its.toArray n }:=I.hok a _ h
  exact⟨_,e,(by show Value.type "list" ≠ .type "tuple"; decide +kernel)⟩
 |ins C dx fs=>
  have x:=I.hok a _ h
  obtain⟨_,_,_,e,_⟩:=x
  exact⟨_,e,(by show Value.ref C≠.type "tuple"; exact fun z=>by cases z)⟩
 |_=>exact absurd (show false=true from p) Bool.false_ne_true
theorem OpR.or{f:Value→Value→Sem Value}{r r':R2}(h:OpR X f r)(h':OpR X f r'):OpR X f (fun x y H Q=>r x y H Q∨r' x y H Q):=by
 intro pins s σ H x y v u Q I rx ry q
 rcases q with q|q
 ·exact h pins s σ H x y v u Q I rx ry q
 ·exact h' pins s σ H x y v u Q I rx ry q
theorem z8(b:Expr){op:CmpOp}(h:op≠.In:=by decide)(h2:op≠.NotIn:=by decide):behindInMarks op b=false:=by
 have e1:(op==CmpOp.In)=false:=by cases op <;> first|rfl|exact absurd rfl h
 have e2:(op==CmpOp.NotIn)=false:=by cases op <;> first|rfl|exact absurd rfl h2
 cases b <;> simp[behindInMarks,e1,e2]
theorem Ue{op:CmpOp}{r:R2}(ho:OpR X (compareOp op) r)(ha:PE X a ta)(hb:PE X b tb)(hm:behindInMarks op b=false):PE X (.Compare a [op] [b] pos) (tOp r ta tb):=by
 intro pins s σ H Q I h
 exact wpAny_Compare1 (Qo ha hb I h fun v u s2 x y H2 I2 rx ry q=>ho pins s2 σ H2 x y v u Q I2 rx ry q) hm
noncomputable def Wc(t:TE):TT:=fun σ H Q=>t σ H fun x H'=>∃k,x=.bl k∧Q k H'
theorem V3{op:CmpOp}{r:R2}(ho:OpR X (compareOp op) r)(ha:PE X a ta)(hb:PE X b tb)(hm:behindInMarks op b=false):PT X (.Compare a [op] [b] pos) (Wc (tOp r ta tb)):=by
 intro pins s σ H Q I h
 refine wpAny_isTrue_Compare1 (thn (ha pins s σ H _ I h) fun v s1 ⟨x,H1,I1,r1,q1⟩=>thn (hb pins s1 σ H1 _ I1 q1) fun u s2 ⟨y,H2,I2,r2,q2⟩=>
  thn (ho pins s2 σ H2 x y v u _ I2 r1 r2 q2) fun c s3 ⟨z,H3,I3,r3,k,e,q3⟩=>?_) hm
 subst e
 cases r3
 exact wpAny_truthy_bool ⟨H3,I3,q3⟩
noncomputable def Wg(r r':R2)(ta tb tc:TE):TE:=fun σ H Q=>ta σ H fun x H1=>tb σ H1 fun y H2=>r x y H2 fun z H3=>∃k,z=.bl k ∧
 (if k=true then tc σ H3 fun w' H4=>r' y w' H4 Q else Q (.bl false) H3)
theorem Wv{op op':CmpOp}{r r':R2}(ho:OpR X (compareOp op) r)(ho':OpR X (compareOp op') r')(ha:PE X a ta)(hb:PE X b tb)(hc:PE X c tc)
  (hm:lastMarks [op,op'] [b,c]=false:=by with_unfolding_all rfl):PT X (.Compare a [op,op'] [b,c] pos) (Wc (Wg r r' ta tb tc)):=by
 intro pins s σ H Q I h
 refine isTrue_chain (thn (ha pins s σ H _ I h) fun v s1 ⟨x,H1,I1,r1,q1⟩=>test_link (thn (hb pins s1 σ H1 _ I1 q1) fun u s2 ⟨y,H2,I2,r2,q2⟩=>
  thn (ho pins s2 σ H2 x y v u _ I2 r1 r2 q2) fun d s3 ⟨z,H3,I3,r3,k,e,q3⟩=>?_)) hm
 subst e
 cases r3
 refine wpAny_truthy_bool ?_
 cases k with
 |false=>
  obtain⟨k',e',q'⟩:=q3
  cases e'
  exact ite_ff ⟨H3,I3,q'⟩
 |true=>
  refine ite_tt (test_last (thn (hc pins s3 σ H3 _ I3 q3) fun w' s4 ⟨z',H4,I4,r4,q4⟩=>thn (ho' pins s4 σ H4 y z' u w' _ I4 r2 r4 q4) fun d' s5 z_=>?_))
  obtain⟨z2,H5,I5,r5,k2,e2,q5⟩:=z_
  subst e2
  cases r5
  exact wpAny_truthy_bool ⟨H5,I5,q5⟩
noncomputable def Qq(K:Frag)(x:V)(H:Hp)(k:Bool):Prop:=
 match x with
 |.non=>k=false
 |.bl b=>k=b
 |.int i=>k=(i != 0)
 |.str y=>y.length≤sizeLine∧k=((y.length:Int) != 0)
 |.byt y=>y.size≤sizeLine∧k=((y.size:Int) != 0)
 |.ref p=>(∃xs,SqL K H p xs∧k = !xs.isEmpty)∨(∃xs,SqT K H p xs∧k = !xs.isEmpty)∨∃kvs,H p=some (.dK kvs)∧k = !kvs.isEmpty
 |_=>False
theorem YI{κ:Type}{kvs:List (κ×V)}{vs:List (κ×Value)}(r:KV kvs vs):(!vs.isEmpty) = !kvs.isEmpty:=by
 cases r <;> rfl
theorem jm{xs:List V}{its:List Value}(r:Vals xs its):(!its.toArray.isEmpty) = !xs.isEmpty:=by
 cases r <;> simp
theorem vj:(sizeLine:Nat)<2 ^ 63:=by rw[sizeLine_eq];decide
theorem tru_ok:TruR X (fun x H Q=>∃k,Qq X.K x H k∧Q k H):=by
 intro pins s σ H x v Q I rx h
 obtain⟨k,e,q⟩:=h
 have hl:=vj
 have hs:sizeLine=16777216:=sizeLine_eq
 cases x with
 |non=>
  cases rx
  have e':k=false:=e
  subst e'
  exact truthy_none ⟨H,I,q⟩
 |bl b=>
  cases rx
  have e':k=b:=e
  subst e'
  exact wpAny_truthy_bool ⟨H,I,q⟩
 |int i=>
  obtain⟨t,rfl⟩:=rx
  have e':k=(i != 0):=e
  subst e'
  exact PySem.P.truthy_int ⟨H,I,q⟩
 |str y=>
  obtain⟨t,rfl⟩:=rx
  obtain⟨hy,e'⟩:y.length≤sizeLine∧k=((y.length:Int) != 0):=e
  subst e'
  exact PySem.P.truthy_str (by lia) ⟨H,I.tok _,q⟩
 |byt y=>
  obtain⟨t,rfl⟩:=rx
  obtain⟨hy,e'⟩:y.size≤sizeLine∧k=((y.size:Int) != 0):=e
  subst e'
  exact PySem.W.truthy_bytes (by lia) ⟨H,I.tok _,q⟩
 |ref p=>
  cases rx
  have e':(∃xs,SqL X.K H p xs∧k = !xs.isEmpty)∨(∃xs,SqT X.K H p xs∧k = !xs.isEmpty)∨∃kvs,H p=some (.dK kvs)∧k = !kvs.isEmpty:=e
  rcases e' with ⟨xs,hx,e'⟩|⟨xs,hx,e'⟩|⟨kvs,hx,e'⟩
  ·subst e'
   obtain⟨its,r,pl,hz⟩:=I.list hx
   have hlen:=r.length
   exact wpAny_truthy_list pl.isList (by simp only[size_toArray];lia) ⟨H,I.tok _,by rw[jm r];exact q⟩
  ·subst e'
   obtain⟨its,r,pl,hz⟩:=I.tuple hx
   have hlen:=r.length
   exact truthy_tuple pl (by simp only[size_toArray];lia) ⟨H,I.tok _,by rw[jm r];exact q⟩
  ·subst e'
   obtain⟨hz,hS,vs,r,m⟩:kvs.length≤sizeLine∧(p==sysModules)=false∧∃vs,KV kvs vs∧s.heap.DictOf (Zv X.prog X.w) p vs:=I.hok p _ hx
   have hlen:kvs.length=vs.length:=Paired.length r
   exact wpAny_truthy_dict hS m (by lia) ⟨H,I.tok _,by rw[YI r];exact q⟩
 |_=>exact(show False from e).elim
theorem Wu(ha:PE X a ta)(he:∀whole,isTrue a X.env whole=(do let v ← whole;standAt a.pos;holding [v] (truthy v))) :
  PT X a (fun σ H Q=>ta σ H fun x H'=>∃k,Qq X.K x H' k∧Q k H'):=by
 intro pins s σ H Q I h
 exact isTrue_plain (thn (ha pins s σ H _ I h) fun v s1 ⟨x,H1,I1,r1,q1⟩=>tru_ok pins s1 σ H1 x v Q I1 r1 q1) (he _)
theorem op_add_str:OpR X (binaryOp .Add) (fun x y H Q=>∃i j,x=.str i∧y=.str j∧i.length+j.length≤sizeLine∧Q (.str (i++j)) H):=by
 intro pins s σ H x y v u Q I rx ry h
 obtain⟨i,j,rfl,rfl,hz,q⟩:=h
 obtain⟨t,rfl⟩:=rx
 obtain⟨t',rfl⟩:=ry
 exact add_str (fun t' tk=>⟨.str (i++j),H,I.tok _,⟨_,rfl⟩,q⟩) hz
theorem vals1{x:V}{us:List Value}(r:Vals [x] us):∃u,us=[u]∧RelV x u:=by
 cases r with
 |cons r1 r2=>cases r2;exact⟨_,rfl,r1⟩
theorem vals2{x y:V}{us:List Value}(r:Vals [x,y] us):∃u w',us=[u,w']∧RelV x u∧RelV y w':=by
 cases r with
 |cons r1 r2=>
  cases r2 with
  |cons r3 r4=>cases r4;exact⟨_,_,rfl,r1,r3⟩
end
section
variable{prog:Program}{w:World}{A:Around}{E:Value→Shared→Prop}{s:Shared}{K:Frag}{x dx C f:Addr}{mA:Str→Option Value}{name:Str}{v:Value}
end
section
variable{P:Program}{w:World}{H H':Hp}{h h':Heap}{a C dx:Addr}{fs fs':List (Str×V)}
end
section
variable{X:Cx}{pins:List (Addr×Obj)}{σ:St}{H:Hp}{s:Shared}{a C dx:Addr}{fs:List (Str×V)}{f:Str}{v:V}{A:Around}{E:Value→Shared→Prop}
end
section
variable{X:Cx}{o e value:Expr}{f:Str}{pos pos' tpos:Pos}{ta tv:TE}
end
section
variable{X:Cx}{pins:List (Addr×Obj)}{σ:St}{H:Hp}{s:Shared}{A:Around}{E:Value→Shared→Prop}{Q:Value→Shared→Prop}{c:Value}{b:Bool}
end
structure Room(k:Nat)(A:Around):Prop where
 hd:A.handled=none
 dp:A.depth+3*k+5<recursionLimit
 un:A.units+16*k+200<cLine
theorem Room.mono{j k:Nat}{A:Around}(r:Room k A)(h:j≤k):Room j A:=⟨r.hd,by have:=r.dp;lia,by have:=r.un;lia⟩
theorem Room.deeper{k:Nat}{A:Around}(r:Room (k+1) A)(env:Env):Room k (A.deeper env):=
 ⟨r.hd,by have:=r.dp;show A.depth+1+3*k+5<_;lia,by have:=r.un;show A.units+3+16*k+200<_;lia⟩
theorem Room.depth{k:Nat}{A:Around}(r:Room k A):A.depth<recursionLimit:=by have:=r.dp;lia
theorem Room.units{k:Nat}{A:Around}(r:Room k A):A.units+64<cLine:=by have:=r.un;lia
noncomputable def tNil:TA:=fun _ H Q=>Q [] H
noncomputable def tCons(ta:TE)(tr:TA):TA:=fun σ H Q=>ta σ H fun x H1=>tr σ H1 fun xs H2=>Q (x::xs) H2
section
variable{X:Cx}{e:Expr}{es:List Expr}{te:TE}{t:TA}{pos:Pos}
theorem u7:PA X [] tNil:=fun _ _ _ _ H Q I h=>Calls.spliced_nil ⟨[],H,I,.nil,h⟩
theorem wq(ha:PE X e te)(hr:PA X es t)(hs:starEach (e::es) X.env=(false,eval e X.env)::starEach es X.env:=by rfl):PA X (e::es) (tCons te t):=by
 intro pos pins s σ H Q I h
 rw[hs]
 show wpAny _ _ (spliced ((false,eval e X.env)::backTo pos (starEach es X.env))) _ _ s
 refine Calls.spliced_cons (thn (ha pins s σ H _ I h) fun u s1 z_=>?_)
 obtain⟨x,H1,I1,r1,q1⟩:=z_
 exact thn (hr pos pins s1 σ H1 _ I1 q1) fun us s2 z_=>by obtain⟨xs,H2,I2,r2,q2⟩:=z_;exact⟨x::xs,H2,I2,.cons r1 r2,q2⟩
noncomputable def tTup(t:TA):TE:=fun σ H Q=>t σ H fun xs H1=>xs.length≤sizeLine∧∀p,H1 p=none→Q (.ref p) (upd H1 p (.tup xs))
noncomputable def tLst(t:TA):TE:=fun σ H Q=>t σ H fun xs H1=>xs.length≤sizeLine∧∀p,H1 p=none→Q (.ref p) (upd H1 p (.lst xs))
theorem Wy{x1}(h:PA X es t):PE X (.Tuple es x1 pos) (tTup t):=by
 intro pins s σ H Q I hq
 refine wpAny_Tuple_spliced (thn (h pos pins s σ H _ I hq) fun us s1 ⟨xs,H1,I1,r,z,q⟩=>⟨by rw[← r.length];exact z,?_⟩)
 have hf:H1 s1.heap.objs.size=none:=I1.hok.fresh (le_refl _)
 refine⟨.ref s1.heap.objs.size,upd H1 s1.heap.objs.size (.tup xs),I1.laid (t':=s1.toks) (fun b u e=>get?_push_of_some _ e) (le_refl _) ?_,rfl,q _ hf⟩
 exact⟨z,us,r,⟨_,Heap.get?_push_size _ rfl,rfl,_,rfl⟩⟩
theorem WA(h:PA X es t):PE X (.List es pos) (tLst t):=by
 intro pins s σ H Q I hq
 refine wpAny_List_spliced (thn (h pos pins s σ H _ I hq) fun us s1 ⟨xs,H1,I1,r,z,q⟩=>⟨by rw[← r.length];exact z,?_⟩)
 have hf:H1 s1.heap.objs.size=none:=I1.hok.fresh (le_refl _)
 refine⟨.ref s1.heap.objs.size,upd H1 s1.heap.objs.size (.lst xs),I1.laid (t':=s1.toks) (fun b u e=>get?_push_of_some _ e) (le_refl _) ?_,rfl,q _ hf⟩
 exact⟨z,us,0,r,Heap.get?_push_size _ rfl⟩
end
noncomputable abbrev Sp:=List V→Hp→VK→XK→Prop
noncomputable abbrev CXT:=List Env→Hp→Shared→XK→Value→Shared→Prop
structure U9(P:Program)(w:World)(K:Frag)(mg:Str→Option Value)(base:Heap)(A:Around)(outer:List Env)(s:Shared)(H:Hp):Prop where
 frames:A.frames=some outer
 mod:Mod K mg base
 bs:∀b o,base.get? b=some o→s.heap.get? b=some o∧H b=none
 bsz:base.objs.size≤s.heap.objs.size
 funs:s.heap.FunFrames base outer
 frf:∀b∈frs outer,H b=none
 hok:HOk P w H s.heap
 bare:AllBare s.gens
noncomputable def CE(outer:List Env)(P:Program)(w:World)(H:Hp)(s:Shared)(Q:VK)(u:Value)(s':Shared):Prop:=
 ∃v H',s'.os=s.os∧AllBare s'.gens∧Un (frs outer) [] H H' s.heap s'.heap∧HOk P w H' s'.heap∧RelV v u∧Q v H'
noncomputable def CR(CX:CXT)(outer:List Env)(P:Program)(w:World)(H:Hp)(s:Shared)(Q:VK)(E:XK)(r:Result)(s':Shared):Prop:=
 match r with
 | .ok (.ret u)=>CE outer P w H s Q u s'
 |.ok _=>False
 |.error e=>CX outer H s E e s'
structure FnOk(P:Program)(w:World)(K:Frag)(mg:Str→Option Value)(base:Heap)(CX:CXT)(k:Nat)(f:Addr)(fd:FuncData)(ps:List Str)(sp:Sp):Prop where
 len:∀vs H Q E,sp vs H Q E→vs.length=ps.length
 run:∀(A:Around) (outer:List Env) (s:Shared) (H:Hp) (args:Args) (us:List Value) (vs:List V) (Q:VK) (E:XK),Room k A→U9 P w K mg base A outer s H→BindsTo s fd args (ps.zip us)→Vals vs us→sp vs H Q E →
  codeAny (model P w) A (.call (.ref f) args) (CR CX outer P w H s Q E) s
theorem FnOk.imp{P:Program}{w:World}{K:Frag}{mg:Str→Option Value}{base:Heap}{CX:CXT}{k:Nat}{f:Addr}{fd:FuncData}{ps:List Str}{sp sp':Sp}(F:FnOk P w K mg base CX k f fd ps sp)
  (h:∀vs H Q E,sp' vs H Q E→sp vs H Q E):FnOk P w K mg base CX k f fd ps sp':=
 ⟨fun vs H Q E q=>F.len vs H Q E (h _ _ _ _ q),fun A outer s H args us vs Q E hr he hb hv hs=>F.run A outer s H args us vs Q E hr he hb hv (h _ _ _ _ hs)⟩
section
variable{X:Cx}{pins:List (Addr×Obj)}{σ:St}{H:Hp}{s s':Shared}
theorem Inv.env0(I:Inv X pins σ H s):U9 X.prog X.w X.K X.mg X.base X.A X.stack s H:=
 ⟨I.ok.frames,I.ok.mod,I.bs,le_trans I.ok.bsz I.sz,I.stack,I.stkFree,I.hok,I.bare⟩
theorem Inv.after{Q:VK}{u:Value}(I:Inv X pins σ H s)(h:CE X.stack X.prog X.w H s Q u s'):EP X pins σ Q u s':=by
 obtain⟨v,H',os,bare,un,hok,r,q⟩:=h
 obtain⟨hh,g,d,t,os'⟩:=s'
 obtain rfl:os'=s.os:=os
 exact⟨v,H',I.call (h':=hh) (g':=g) (d':=d) (t':=t) (ch:=[]) un hok bare (fun b z=>absurd z (by simp)),r,q⟩
end
noncomputable def tCall(sp:Sp)(dvs:List V)(E:XK)(t:TA):TE:=fun σ H Q=>t σ H fun vs H1=>sp (vs++dvs) H1 Q E
noncomputable def Binds(K:Frag)(fd:FuncData)(ps:List Str)(ds:List Value):Prop:=
 ∀(s:Shared) (us:List Value),K.In s.heap→(us++ds).length=ps.length→BindsTo s fd ⟨us,[]⟩ (ps.zip (us++ds))
theorem Binds.all{K:Frag}{fd:FuncData}{ps:List Str}(h:∀us:List Value,us.length=ps.length→bindArgs fd ⟨us,[]⟩=pure (ps.zip us)):Binds K fd ps []:=fun s us _ hl=>by
 rw[append_nil] at hl ⊢
 exact .of_eq (h us hl)
noncomputable def YO(CX:CXT)(X:Cx)(E:XK):Prop:=∀(pins:List (Addr×Obj)) (σ:St) (H:Hp) (s:Shared) (e:Value) (s':Shared),Inv X pins σ H s→CX X.stack H s E e s'→X.xe e s'
section
variable{X:Cx}{CX:CXT}{k:Nat}{f C:Addr}{fd:FuncData}{ps:List Str}{sp:Sp}{dvs:List V}{ds:List Value}{E:XK}{x m:Str}{p pos apos:Pos}{e o:Expr}{es:List Expr}{ta:TE}{t:TA}
theorem Jv{pins:List (Addr×Obj)}{σ:St}{H:Hp}{s:Shared}{Q:VK}{us:List Value}{vs:List V}(F:FnOk X.prog X.w X.K X.mg X.base CX k f fd ps sp)(hr:Room k X.A)(hb:Binds X.K fd ps ds)(hd:Vals dvs ds)(hx:YO CX X E)
  (I:Inv X pins σ H s) (r:Vals vs us) (h:sp (vs++dvs) H Q E):wpAny (model X.prog X.w) X.A (call (.ref f) us) (EP X pins σ Q) X.xe s:=by
 have r2:Vals (vs++dvs) (us++ds):=r.append hd
 have hl:(us++ds).length=ps.length:=by rw[← r2.length];exact F.len _ _ _ _ h
 refine wpAny_call (codeAny_mono (F.run X.A X.stack s H ⟨us,[]⟩ (us++ds) (vs++dvs) Q E hr I.env0 (hb s us I.kIn hl) r2 h) fun r s' hq=>?_)
 cases r with
 |error e=>exact hx pins σ H s e s' I hq
 |ok fl=>
  cases fl with
  |ret u=>exact I.after hq
  |next=>exact False.elim hq
  |brk=>exact False.elim hq
  |cont=>exact False.elim hq
theorem Uf(F:FnOk X.prog X.w X.K X.mg X.base CX k f fd ps sp)(hr:Room k X.A)(hg:Gl X x)(hm:X.mg x=some (.ref f))(hk:keepIn X.K (.ref f)=true)(hb:Binds X.K fd ps ds)(hd:Vals dvs ds)(hx:YO CX X E)
  (ha:PA X (e::es) t) (hdb:(x==("__debug__" : Str))=false:=by decide) (he:starEach (e::es) X.env=(false,eval e X.env)::starEach es X.env:=by rfl) (hpl:(backTo pos (starEach es X.env)).any (·.1)=false:=by rfl) :
  PE X (.Call (.Name x p) (e::es) [] pos) (tCall sp dvs E t):=by
 intro pins s σ H Q I h
 refine wpAny_Call_Name_kw (wT I hg hm ?_ hdb)
 refine callWith_K (h₀:=X.base) I.ok.mod.kin hk (thn (ha pos pins s σ H _ I h) fun us s1 ⟨vs,H1,I1,r,q⟩=>⟨I1.kIn,?_⟩) he hpl
 exact Jv F hr hb hd hx I1 r q
end
section
variable{X:Cx}{CX:CXT}{k:Nat}{f C:Addr}{fd:FuncData}{ps ks:List Str}{sp:Sp}{E:XK}{x m:Str}{p pos apos kpos:Pos}{e o:Expr}{es:List Expr}{kws:List Keyword}{te ta:TE}{t tk:TA}{nm:Option Str}
variable{g:List Value→List Value→List Value}{gV:List V→List V→List V}
end
structure zP(N P:List Str)(sc:Scope):Prop where
 kind:sc.kind=.function
 co:sc.isCoroutine=false
 gen:sc.isGenerator=false
 nd:N.Nodup
 pre:N.take P.length=P
 par:∀x∈P,sc.names.lookup x=some .local∨sc.names.lookup x=some .cell
 nofree:∀y∈sc.names,y.2≠.free
theorem j6{kindOf:Str→Option NameKind}{x:Str}:∀{binds:List (Str×Value)} {m:Str→Option Value},(∀v,(x,v)∉binds)→bindL kindOf binds m x=m x
 |[],_,_=>rfl
 | (n,v)::r,m,h=>by
  unfold bindL
  rw[j6 fun w hw=>h w (mem_cons_of_mem _ hw)]
  split
  ·have:x≠n:=by rintro rfl;exact h v mem_cons_self
   simp[this]
  ·rfl
theorem j8{kindOf:Str→Option NameKind}{x:Str}:∀{binds:List (Str×Value)} {m:Str→Option Value},(∀v,(x,v)∉binds)→bindC kindOf binds m x=m x
 |[],_,_=>rfl
 | (n,v)::r,m,h=>by
  unfold bindC
  rw[j8 fun w hw=>h w (mem_cons_of_mem _ hw)]
  split
  ·rfl
  ·have:x≠n:=by rintro rfl;exact h v mem_cons_self
   simp[this]
theorem j7{kindOf:Str→Option NameKind}{x:Str}{v:Value}:∀{P:List Str} {vs:List Value} {i:Nat} {m:Str→Option Value},P.Nodup→P[i]?=some x→vs[i]?=some v→kindOf x=some .local →
  bindL kindOf (P.zip vs) m x=some v
 |[],_,_,_,_,h,_,_=>by simp at h
 |_::_,[],_,_,_,_,h,_=>by simp at h
 |p::P,w::vs,0,m,nd,h1,h2,hk=>by
  simp at h1 h2;subst h1;subst h2
  show bindL kindOf ((p,w)::P.zip vs) m p=_
  unfold bindL
  rw[j6 fun v hv=>(nodup_cons.mp nd).1 (List.of_mem_zip hv).1,if_pos hk]
  simp
 |p::P,w::vs,i+1,m,nd,h1,h2,hk=>by
  show bindL kindOf ((p,w)::P.zip vs) m x=_
  unfold bindL
  exact j7 (i:=i) (nodup_cons.mp nd).2 (by simpa using h1) (by simpa using h2) hk
theorem j9{kindOf:Str→Option NameKind}{x:Str}{v:Value}:∀{P:List Str} {vs:List Value} {i:Nat} {m:Str→Option Value},P.Nodup→P[i]?=some x→vs[i]?=some v→kindOf x≠some .local →
  bindC kindOf (P.zip vs) m x=some v
 |[],_,_,_,_,h,_,_=>by simp at h
 |_::_,[],_,_,_,_,h,_=>by simp at h
 |p::P,w::vs,0,m,nd,h1,h2,hk=>by
  simp at h1 h2;subst h1;subst h2
  show bindC kindOf ((p,w)::P.zip vs) m p=_
  unfold bindC
  rw[j8 fun v hv=>(nodup_cons.mp nd).1 (List.of_mem_zip hv).1,if_neg hk]
  simp
 |p::P,w::vs,i+1,m,nd,h1,h2,hk=>by
  show bindC kindOf ((p,w)::P.zip vs) m x=_
  unfold bindC
  exact j9 (i:=i) (nodup_cons.mp nd).2 (by simpa using h1) (by simpa using h2) hk
noncomputable def start(N:List Str)(vs:List V):St:=vs.map some++List.replicate (N.length-vs.length) none
noncomputable def jq(CX:CXT)(P:Program)(w:World)(K:Frag)(mg:Str→Option Value)(base:Heap)(N:List Str)(qual:Str)(scope:Scope)(f:Addr)(cd:Value)(A:Around)(outer:List Env)(s:Shared)(H:Hp)(E:XK):Cx where
 prog:=P
 w:=w
 K:=K
 mg:=mg
 base:=base
 A:=A.deeper (envOfC qual scope s.heap.objs.size f cd)
 N:=N
 s₀:=s
 H₀:=H
 env:=envOfC qual scope s.heap.objs.size f cd
 outer:=outer
 stack:=envOfC qual scope s.heap.objs.size f cd::outer
 ex:=[]
 calm:=true
 fn:=fun _=>true
 pn:=[]
 xe:=fun e s'=>wpAny (model P w) (A.deeper (envOfC qual scope s.heap.objs.size f cd)) (leaving (envOfC qual scope s.heap.objs.size f cd) e) (fun _ s''=>CX outer H s E e s'') (fun e' s''=>CX outer H s E e' s'') s'
theorem Yo{sc:Scope}{n:Nat}{x:Str}(h:sc.names.lookup x=some .cell):∃c,(cellsFrom n sc.names []).lookup x=some c:=by
 have q:=PySem.W.cellsFrom_some sc.names n [] (.inl h)
 exact Option.isSome_iff_exists.mp q
theorem XU{CX:CXT}{P:Program}{w:World}{K:Frag}{mg:Str→Option Value}{base:Heap}{N ps:List Str}{qual:Str}{scope:Scope}{f:Addr}{cd:Value}{A:Around}{outer:List Env}{s s1:Shared}{H:Hp}{E:XK}{us:List Value}{vs:List V}
  (S:zP N ps scope) (hd:A.handled=none) (e0:U9 P w K mg base A outer s H) (hl:vs.length=ps.length) (r:Vals vs us)
  (x:InCallC s s.heap.objs.size (bindL (envOfC qual scope s.heap.objs.size f cd).kindOf (ps.zip us) fun _=>none) (cellsFrom (s.heap.objs.size+1) scope.names []) (bindC (envOfC qual scope s.heap.objs.size f cd).kindOf (ps.zip us) fun _=>none) s1) :
  Inv (jq CX P w K mg base N qual scope f cd A outer s H E) [] (start N vs) H s1:=by
 have hpl:ps.length≤N.length:=by have:=congrArg List.length S.pre;rw[List.length_take] at this;lia
 obtain⟨h1,tk,rfl,hk⟩:=x.done
 have noA:∀b:Addr,b∉(jq CX P w K mg base N qual scope f cd A outer s H E).ex:=fun b z=>absurd (show b∈([]:List Addr) from z) (by simp)
 refine⟨⟨e0.mod,S.kind,rfl,rfl,le_refl _,fun y z c h1 h2=>?_,fun y hy=>?_,fun y c _ h=>?_,fun _=>hd,Around.frames_deeper e0.frames,.inr ⟨rfl,rfl⟩,fun b z=>absurd z (noA b),e0.bs,e0.bsz,fun b _ _=>noA b,fun b z=>absurd z (noA b),e0.funs,e0.frf⟩,
  rfl,e0.bare,Un.kept hk,⟨_,x.toInCall.ns,fun i y v h1 h2 h3=>?_⟩,fun y c h=>⟨_,x.cell y c h⟩,e0.hok.fresh (le_refl _),fun y c h=>?_,fun p hp=>absurd (show p∈([]:List (Addr×Obj)) from hp) (by simp),e0.hok.kept hk,?_⟩
 ·exact name_of_addr x.apart (PySem.mem_of_lookup h1) (PySem.mem_of_lookup h2)
 ·have hy:scope.names.lookup y=some .cell∨scope.names.lookup y=some .free:=hy
  rcases hy with hy|hy
  ·exact Yo hy
  ·exact absurd rfl (S.nofree _ (PySem.mem_of_lookup hy))
 ·exact Nat.le_of_lt (x.above y c (PySem.mem_of_lookup h))
 ·have hi:i<vs.length:=by
   unfold start at h2
   by_cases hi:i<vs.length
   ·exact hi
   ·rw[getElem?_append_right (by simpa using hi)] at h2
    rw[getElem?_replicate] at h2
    split at h2 <;> cases h2
  have ha:vs[i]?=some v:=by
   unfold start at h2
   rw[getElem?_append_left (by simpa using hi),getElem?_map] at h2
   cases e:vs[i]? with
   |none=>rw[e] at h2;cases h2
   |some a=>rw[e] at h2;cases h2;rfl
  obtain⟨u,hu,rv⟩:=r.get ha
  have hp:ps[i]?=some y:=by
   rw[← S.pre,List.getElem?_take_of_lt (by lia)];exact h1
  have ndP:ps.Nodup:=by rw[← S.pre];exact S.nd.sublist (List.take_sublist _ _)
  refine⟨u,rv,?_⟩
  rcases S.par y (List.mem_of_getElem? hp) with k|k
  ·exact .inl ⟨k,j7 ndP hp hu k⟩
  ·obtain⟨c,e⟩:=Yo (n:=s.heap.objs.size+1) k
   refine .inr ⟨.inl k,c,e,?_⟩
   have q:=x.cell y c e
   rw[j9 ndP hp hu (by show scope.names.lookup y≠_;rw[k];decide)] at q
   exact q
 ·exact e0.hok.fresh (Nat.le_of_lt (x.above y c (PySem.mem_of_lookup h)))
 ·unfold start
  show _=N.length
  rw[length_append,length_map,List.length_replicate]
  lia
theorem Jm{CX:CXT}{P:Program}{w:World}{K:Frag}{mg:Str→Option Value}{base:Heap}{k:Nat}{f:Addr}{name qual:Str}{params:Arguments}{body:List Stmt}{scope:Scope}{dV kV doc pm cdv ct oc:Value}{an od:Option Addr}
  {osl:Array (Option Value)} {N ps:List Str} {sp:Sp} (lk:K.lookup f=some ⟨oc,od,.func (fnOf name qual params body scope dV kV doc pm an cdv ct),osl⟩) (hcd:codeIn K cdv qual=true) (S:zP N ps scope)
  (len:∀vs H Q E,sp vs H Q E→vs.length=ps.length)
  (hbody:∀(A:Around) (outer:List Env) (s:Shared) (H:Hp) (vs:List V) (Q:VK) (E:XK),Room k (A.deeper (envOfC qual scope s.heap.objs.size f cdv))→sp vs H Q E →
   ∃t,PSs (jq CX P w K mg base N qual scope f cdv A outer s H E) body t∧t { nx:=fun _ H'=>Q .non H',rt:=Q } (start N vs) H) :
  FnOk P w K mg base CX (k+1) f (fnOf name qual params body scope dV kV doc pm an cdv ct) ps sp:=by
 refine⟨len,fun A outer s H args us vs Q E hr e0 hb r hsp=>?_⟩
 have hl:=len _ _ _ _ hsp
 have KX:K.In s.heap:=e0.mod.kin.keeps fun b o e=>(e0.bs b o e).1
 have lim:s.heap.NoLimit:=e0.mod.nolimit.keeps fun b o e=>(e0.bs b o e).1
 have hkind:∀y∈ps.zip us,scope.names.lookup y.1=some .local∨(scope.names.lookup y.1=some .cell∧((cellsFrom (s.heap.objs.size+1) scope.names []).lookup y.1).isSome=true):=fun ⟨n,v⟩ hy=>by
  rcases S.par n (List.of_mem_zip hy).1 with q|q
  ·exact .inl q
  ·exact .inr ⟨q,PySem.W.cellsFrom_some _ _ _ (.inl q)⟩
 refine codeAny_call_function hr.depth (KX _ _ lk) rfl S.co S.gen rfl (PySem.W.codeRec_of KX hcd) (hb _ _ _ _ ?_)
 refine wpAny_newFunctionEnv_cells S.kind hkind fun env he s1 x=>?_
 subst he
 refine⟨lim.keeps x.toInCall.keep,codeAny_func ?_⟩
 obtain⟨t,ht,hq⟩:=hbody A outer s H vs Q E (hr.deeper _) hsp
 have I:Inv (jq CX P w K mg base N qual scope f cdv A outer s H E) [] (start N vs) H s1:=XU S hr.hd e0 hl r x
 refine wpAny_mono (ht [] s1 (start N vs) H _ I hq) (fun fl s' hs=>?_) fun e s' hs=>hs
 have fin:∀{σ':St} {H':Hp} {v:V} {u:Value},Inv (jq CX P w K mg base N qual scope f cdv A outer s H E) [] σ' H' s'→RelV v u→Q v H'→CE outer P w H s Q u s':=
  fun {σ' H' v u} J rv q=>⟨v,H',J.os,J.bare,J.base,J.hok,rv,q⟩
 cases fl with
 |ret u=>
  obtain⟨v,σ',H',J,rv,q⟩:=hs
  exact fin J rv q
 |next=>
  obtain⟨σ',H',J,q⟩:=hs
  exact fin (v:=V.non) (u:=Value.none) J rfl q
 |brk=>
  obtain⟨_,_,_,q⟩:=hs
  exact False.elim q
 |cont=>
  obtain⟨_,_,_,q⟩:=hs
  exact False.elim q
section
variable{X:Cx}{x:Str}{p pos:Pos}{e:Expr}{es:List Expr}{t:TA}{id T:String}{r:List V→Hp→VK→Prop}
noncomputable def tCB(r:List V→Hp→VK→Prop)(t:TA):TE:=fun σ H Q=>t σ H fun vs H1=>r vs H1 Q
theorem pe_callB(hc:CallR X (.builtin id) r)(hg:Gl X x)(hm:X.mg x=none)(hv:bootBuiltins x=some (.builtin id))(ha:PA X (e::es) t)(hn:x ≠ "__name__" := by decide)(hdb:(x==("__debug__" : Str))=false:=by decide)
  (he:starEach (e::es) X.env=(false,eval e X.env)::starEach es X.env:=by rfl) (hpl:(backTo pos (starEach es X.env)).any (·.1)=false:=by rfl):PE X (.Call (.Name x p) (e::es) [] pos) (tCB r t):=by
 intro pins s σ H Q I h
 refine wpAny_Call_Name_kw (jl I hg hm hv ?_ hn hdb)
 exact PyProof.Rows.callWith_builtin1 (thn (ha pos pins s σ H _ I h) fun us s1 ⟨vs,H1,I1,r1,q1⟩=>hc pins s1 σ H1 vs us Q I1 r1 q1) he hpl
theorem pe_callTy(hc:CallR X (.type T) r)(hg:Gl X x)(hm:X.mg x=none)(hv:bootBuiltins x=some (.type T))(ha:PA X (e::es) t)(hn:x ≠ "__name__" := by decide)(hdb:(x==("__debug__" : Str))=false:=by decide)
  (he:starEach (e::es) X.env=(false,eval e X.env)::starEach es X.env:=by rfl) (hpl:(backTo pos (starEach es X.env)).any (·.1)=false:=by rfl):PE X (.Call (.Name x p) (e::es) [] pos) (tCB r t):=by
 intro pins s σ H Q I h
 refine wpAny_Call_Name_kw (jl I hg hm hv ?_ hn hdb)
 exact PyProof.Rows.callWith_type1 (thn (ha pos pins s σ H _ I h) fun us s1 ⟨vs,H1,I1,r1,q1⟩=>hc pins s1 σ H1 vs us Q I1 r1 q1) he hpl
end
end L2
namespace HT
open PySem PyProof.Rows
section
open PySem.SeqAt
open PySem.AutoSeq1 (wpAny_loadPart')
open PySem.MeetsSeq PySem.MeetsSeq2 PySem.MeetsSeq3
end
section
variable{prog:Program}{w:World}{A:Around}{E:Value→Shared→Prop}{s:Shared}
noncomputable def sIx(n d:Nat):Option Int→Nat
 |none=>d
 |some v=>if v<0 then (v+(n:Int)).toNat else min v.toNat n
theorem sIx_none(n d:Nat):sIx n d none=d:=rfl
end
end HT
namespace L2
open PySem PySem.Spec PyProof.Rows
noncomputable abbrev TO:=St→Hp→(Option Int→Hp→Prop)→Prop
noncomputable def PO(X:Cx)(e:Option Expr)(t:TO):Prop:=
 ∀(pins:List (Addr×Obj)) (s:Shared) (σ:St) (H:Hp) (Q:Option Int→Hp→Prop),Inv X pins σ H s→t σ H Q →
  wpAny (model X.prog X.w) X.A (evalPart e X.env) (fun u s'=>∃o H',Inv X pins σ H' s'∧IsPart u o∧Q o H') X.xe s
noncomputable def VL:TO:=fun _ H Q=>Q none H
noncomputable def tPart(t:TE):TO:=fun σ H Q=>t σ H fun x H1=>∃i,x=.int i∧Q (some i) H1
section
variable{X:Cx}{e:Expr}{te:TE}{lo hi:Option Expr}{tl th:TO}{pos p2:Pos}
theorem V9:PO X none VL:=by
 intro pins s σ H Q I h
 rw[evalPart_none]
 exact wpAny_pure ⟨none,H,I,.none,h⟩
theorem V8(h:PE X e te):PO X (some e) (tPart te):=by
 intro pins s σ H Q I hw
 rw[evalPart_some]
 refine thn (h pins s σ H _ I hw) fun u s1 z_=>?_
 obtain⟨x,H1,I1,r1,q1⟩:=z_
 obtain⟨i,rfl,q⟩:=q1
 obtain⟨t,rfl⟩:=r1
 exact⟨some i,H1,I1,.int i t,q⟩
noncomputable def SlR(X:Cx)(r:V→Option Int→Option Int→Hp→VK→Prop):Prop:=
 ∀(pins:List (Addr×Obj)) (s:Shared) (σ:St) (H:Hp) (x:V) (v vl vu:Value) (lo hi:Option Int) (sl:Addr) (Q:VK),Inv X pins σ H s→RelV x v→s.heap.IsSliceOf sl vl vu .none→IsPart vl lo→IsPart vu hi→r x lo hi H Q →
  ∃T id,typeLookup (.type T) "__getitem__" = pure (some (.builtin id))∧s.TypeIs v T∧wpAny (model X.prog X.w) X.A (getItem v (.ref sl)) (EP X pins σ Q) X.xe s
theorem SlR.or{r r':V→Option Int→Option Int→Hp→VK→Prop}(h:SlR X r)(h':SlR X r'):SlR X (fun x lo hi H Q=>r x lo hi H Q∨r' x lo hi H Q):=by
 intro pins s σ H x v vl vu lo hi sl Q I rx hs pl pu q
 rcases q with q|q
 ·exact h pins s σ H x v vl vu lo hi sl Q I rx hs pl pu q
 ·exact h' pins s σ H x v vl vu lo hi sl Q I rx hs pl pu q
noncomputable def tSl(r:V→Option Int→Option Int→Hp→VK→Prop)(te:TE)(tl th:TO):TE:=fun σ H Q=>te σ H fun x H1=>tl σ H1 fun l H2=>th σ H2 fun u H3=>r x l u H3 Q
theorem Wz{r:V→Option Int→Option Int→Hp→VK→Prop}(hr:SlR X r)(he:PE X e te)(hl:PO X lo tl)(hu:PO X hi th):PE X (.Subscript e (.Slice lo hi none p2) pos) (tSl r te tl th):=by
 intro pins s σ H Q I h
 refine Subscript_ (thn (he pins s σ H _ I h) fun v s1 z_=>?_)
 obtain⟨x,H1,I1,r1,q1⟩:=z_
 refine wpAny_Slice (thn (hl pins s1 σ H1 _ I1 q1) fun vl s2 ⟨l,H2,I2,pl,q2⟩=>thn (hu pins s2 σ H2 _ I2 q2) fun vu s3 z_=>?_)
 obtain⟨u,H3,I3,pu,q3⟩:=z_
 rw[evalPart_none]
 refine wpAny_pure ?_
 have I4:Inv X pins σ H3 { s3 with heap:=s3.heap.push { cls:=.type "slice", data:=.fields #[vl,vu,.none] } }:=I3.kept (t':=s3.toks) fun b ob q=>get?_push_of_some _ q
 obtain⟨T,id,hT,ht,hg⟩:=hr pins { s3 with heap:=s3.heap.push { cls:=.type "slice", data:=.fields #[vl,vu,.none] } } σ H3 x v vl vu l u s3.heap.objs.size Q I4 r1 (Heap.IsSliceOf.new ..) pl pu q3
 show wpAny (model X.prog X.w) X.A (subscriptTail e (.Slice lo hi none p2) v (.ref s3.heap.objs.size)) (EP X pins σ Q) X.xe { s3 with heap:=s3.heap.push { cls:=.type "slice", data:=.fields #[vl,vu,.none] } }
 exact tail_any (ops:=[.ref s3.heap.objs.size,v]) ht hT hg (by with_unfolding_all rfl)
noncomputable def X0(xs:List V)(lo hi:Option Int):List V:=(xs.drop (HT.sIx xs.length 0 lo)).take (HT.sIx xs.length xs.length hi-HT.sIx xs.length 0 lo)
theorem Yl(xs:List V)(lo hi:Option Int):(X0 xs lo hi).length≤xs.length:=by
 unfold X0
 rw[List.length_take,List.length_drop]
 lia
end
noncomputable def ixN(n:Nat)(i:Int):Option Nat:=if 0≤i then (if i<n then some i.toNat else none) else if -(n:Int)≤i then some (i+n).toNat else none
noncomputable def atI{α:Type}(xs:List α)(i:Int):Option α:=(ixN xs.length i).bind fun j=>xs[j]?
theorem Xh{n:Nat}{i:Int}{j:Nat}(h:ixN n i=some j):seqIndex? i n=some j∧j<n∧-(n:Int)≤i∧i<n:=by
 unfold ixN at h
 by_cases h0:0≤i
 ·rw[if_pos h0] at h
  by_cases h1:i<n
  ·rw[if_pos h1] at h
   have e:i.toNat=j:=Option.some.inj h
   exact⟨by rw[seqIndex_of h0 h1,e],by lia,by lia,h1⟩
  ·rw[if_neg h1] at h;cases h
 ·rw[if_neg h0] at h
  by_cases h1 : -(n:Int)≤i
  ·rw[if_pos h1] at h
   have e:(i+n).toNat=j:=Option.some.inj h
   exact⟨by rw[seqIndex_neg (by lia) h1,e],by lia,h1,by lia⟩
  ·rw[if_neg h1] at h;cases h
theorem ZL{α:Type}{xs:List α}{i:Int}{v:α}(h:atI xs i=some v):∃j,seqIndex? i xs.length=some j∧xs[j]?=some v∧j<xs.length∧-(xs.length:Int)≤i∧i<xs.length:=by
 unfold atI at h
 cases e:ixN xs.length i with
 |none=>rw[e] at h;cases h
 |some j=>
  rw[e] at h
  obtain⟨h1,h2,h3,h4⟩:=Xh e
  exact⟨j,h1,h,h2,h3,h4⟩
theorem U5{α:Type}{xs:List α}{j:Nat}{v:α}(h:xs[j]?=some v):atI xs (j:Int)=some v:=by
 have hj:j<xs.length:=(List.getElem?_eq_some_iff.mp h).1
 have e:ixN xs.length (j:Int)=some j:=by
  unfold ixN
  rw[if_pos (by lia),if_pos (by lia)];simp
 unfold atI;rw[e];exact h
noncomputable def ZN(b:Expr):Prop:=∀o i,subscripted b false o i=operate [o,i] (getItem o i)
noncomputable def IxR(X:Cx)(r:R2):Prop:=
 ∀(value slice:Expr) (pins:List (Addr×Obj)) (s:Shared) (σ:St) (H:Hp) (x y:V) (v u:Value) (Q:VK),Inv X pins σ H s→RelV x v→RelV y u→r x y H Q →
  subscripted slice false v u=operate [v,u] (getItem v u)→wpAny (model X.prog X.w) X.A (subscriptTail value slice v u) (EP X pins σ Q) X.xe s
noncomputable def MtR(X:Cx)(id:String)(r:V→List V→Hp→VK→Prop):Prop:=
 ∀(pins:List (Addr×Obj)) (s:Shared) (σ:St) (H:Hp) (x:V) (xs:List V) (v:Value) (us:List Value) (Q:VK),Inv X pins σ H s→RelV x v→Vals xs us→r x xs H Q →
  wpAny (model X.prog X.w) X.A (call (.builtin id) (v::us)) (EP X pins σ Q) X.xe s
section
variable{X:Cx}{a b:Expr}{ta tb:TE}{pos:Pos}
theorem IxR.or{r r':R2}(h:IxR X r)(h':IxR X r'):IxR X (fun x y H Q=>r x y H Q∨r' x y H Q):=by
 intro value slice pins s σ H x y v u Q I rx ry q hs
 rcases q with q|q
 ·exact h value slice pins s σ H x y v u Q I rx ry q hs
 ·exact h' value slice pins s σ H x y v u Q I rx ry q hs
theorem Jd{r:R2}(hr:IxR X r)(ha:PE X a ta)(hb:PE X b tb)(hs:ZN b):PE X (.Subscript a b pos) (tOp r ta tb):=by
 intro pins s σ H Q I h
 exact Subscript_ (Qo ha hb I h fun v u s2 x y H2 I2 rx ry q=>hr a b pins s2 σ H2 x y v u Q I2 rx ry q (hs _ _))
noncomputable def rIxL(K:Frag):R2:=fun x y H Q=>∃p xs i v,x=.ref p∧y=.int i∧SqL K H p xs∧atI xs i=some v∧Q v H
noncomputable def rIxT(K:Frag):R2:=fun x y H Q=>∃p xs i v,x=.ref p∧y=.int i∧SqT K H p xs∧atI xs i=some v∧Q v H
noncomputable def rIxS:R2:=fun x y H Q=>∃z i c,x=.str z∧y=.int i∧z.length≤sizeLine∧atI z.cps.toList i=some c∧Q (.str ⟨#[c]⟩) H
theorem ix_list:IxR X (rIxL X.K):=by
 intro value slice pins s σ H x y v u Q I rx ry h hs
 obtain⟨p,xs,i,z,rfl,rfl,hq,he,q⟩:=h
 cases rx
 obtain⟨t,rfl⟩:=ry
 obtain⟨its,r,pl,hz⟩:=I.list hq
 obtain⟨j,h1,h2,h3,h4,h5⟩:=ZL he
 obtain⟨w,ew,rw'⟩:=r.get h2
 have hl:=r.length
 have hn:=vj
 have fin:EP X pins σ Q w s:=⟨z,H,I,rw',q⟩
 by_cases h0:0≤i
 ·have hj:i.toNat=j:=by
   rw[seqIndex_of h0 h5] at h1
   exact Option.some.inj h1
  exact item_listR pl.isList h0 (by lia) (by rw[hj];simpa using ew) fin hs
 ·have hj:(i+(its.toArray.size:Int)).toNat=j:=by
   rw[seqIndex_neg (by lia) h4] at h1
   rw[size_toArray,← hl]
   exact Option.some.inj h1
  exact subscriptTail_builtinR (x:=w) pl.isList.typeIs slot_list_getitem.lookup
   (wpAny_getItem_list_neg (Q:=fun r s'=>r=w∧EP X pins σ Q r s') pl.isList (by lia) (by rw[size_toArray] <;> lia) (by lia) (by rw[hj];simpa using ew) ⟨rfl,fin⟩) hs
theorem ix_tup:IxR X (rIxT X.K):=by
 intro value slice pins s σ H x y v u Q I rx ry h hs
 obtain⟨p,xs,i,z,rfl,rfl,hq,he,q⟩:=h
 cases rx
 obtain⟨t,rfl⟩:=ry
 obtain⟨its,r,pl,hz⟩:=I.tuple hq
 obtain⟨j,h1,h2,h3,h4,h5⟩:=ZL he
 obtain⟨w,ew,rw'⟩:=r.get h2
 have hl:=r.length
 have hn:=vj
 have fin:EP X pins σ Q w s:=⟨z,H,I,rw',q⟩
 exact subscriptTail_builtinR (x:=w) pl.typeIs slot_tuple_getitem.lookup
  (getItem_tuple (j:=j) (Q:=fun r s'=>r=w∧EP X pins σ Q r s') pl (by lia) (by lia) (by rw[size_toArray,← hl];exact h1) (by simpa using ew) ⟨rfl,fin⟩) hs
theorem Qb:IxR X rIxS:=by
 intro value slice pins s σ H x y v u Q I rx ry h hs
 obtain⟨z,i,c,rfl,rfl,hz,he,q⟩:=h
 obtain⟨t,rfl⟩:=rx
 obtain⟨t',rfl⟩:=ry
 obtain⟨j,h1,h2,h3,h4,h5⟩:=ZL he
 have hl:z.cps.toList.length=z.length:=by simp[Str.length]
 rw[hl] at h1 h4 h5
 have hn:=vj
 exact tail_any (typeIs_str s z t) slot_str_getitem.lookup (getItem_str (c:=c) (by
  have e1:decide (i < -(2 ^ 63:Int))=false:=decide_eq_false (by lia)
  have e2:decide (i ≥ 2 ^ 63)=false:=decide_eq_false (by lia)
  rw[e1,e2,Bool.or_false]) (by rw[h1];simpa using h2) ⟨.str ⟨#[c]⟩,H,I.tok _,⟨_,rfl⟩,q⟩) hs
noncomputable def rIx(K:Frag):R2:=fun x y H Q=>rIxL K x y H Q∨rIxT K x y H Q∨rIxS x y H Q
theorem Qc:IxR X (rIx X.K):=ix_list.or (ix_tup.or Qb)
theorem YD(its:List Value)(n j:Nat)(u:Value):Obj.mapSeq (·.setIfInBounds j u) { cls:=.type "list", data:=.seq its.toArray n } = { cls:=.type "list", data:=.seq (its.set j u).toArray n }:=by
 simp[Obj.mapSeq]
theorem Inv.lst{pins:List (Addr×Obj)}{σ:St}{H:Hp}{s:Shared}{p:Addr}{xs:List V}(I:Inv X pins σ H s)(h:H p=some (.lst xs)) :
  ∃(its:List Value) (n:Nat),Vals xs its∧s.heap.get? p=some { cls:=.type "list", data:=.seq its.toArray n }∧xs.length≤sizeLine:=by
 obtain⟨z,its,n,r,e⟩:=I.hok p _ h
 exact⟨its,n,r,e,z⟩
theorem Inv.lstUpd{pins:List (Addr×Obj)}{σ:St}{H:Hp}{s:Shared}{p:Addr}{xs ys:List V}{its its':List Value}{n n':Nat}{f:Obj→Obj}(I:Inv X pins σ H s)(h:H p=some (.lst xs))
  (ho:s.heap.get? p=some { cls:=.type "list", data:=.seq its.toArray n }) (hf:f { cls:=.type "list", data:=.seq its.toArray n } = { cls:=.type "list", data:=.seq its'.toArray n' }) (r:Vals ys its') (hz:ys.length≤sizeLine) (t:Nat) :
  Inv X pins σ (upd H p (.lst ys)) { s with heap:=s.heap.update p f,toks:=t }:=by
 have e:(s.heap.update p f).get? p=some { cls:=.type "list", data:=.seq its'.toArray n' }:=by
  rw[Heap.get?_update_self f ho (by rw[hf] <;> rfl),hf]
 refine I.write (x:=p) (e:=p) (by rw[h];trivial) (.inl rfl) (fun b u hb q=>(Heap.get?_update_other _ _ (Ne.symm hb)).trans q) ⟨_,e⟩ ?_
 exact⟨hz,its',n',r,e⟩
noncomputable def rSetL:V→V→V→Hp→(Hp→Prop)→Prop:=fun o i v H Q=>∃p xs k j,o=.ref p∧i=.int k∧H p=some (.lst xs)∧ixN xs.length k=some j∧Q (upd H p (.lst (xs.set j v)))
theorem Wl:PSet X rSetL:=by
 intro pins s σ H o i v ov iv u Q I ro ri rv h
 obtain⟨p,xs,k,j,rfl,rfl,hp,hj,q⟩:=h
 cases ro
 obtain⟨t,rfl⟩:=ri
 obtain⟨its,n,r,ho,hz⟩:=I.lst hp
 obtain⟨h1,h2,h3,h4⟩:=Xh hj
 have hl:=r.length
 have hn:=vj
 have I':Inv X pins σ (upd H p (.lst (xs.set j v))) { s with heap:=s.heap.update p (Obj.mapSeq (·.setIfInBounds j u)) }:=
  I.lstUpd hp ho (YD its n j u) (r.set rv j) (by rw[List.length_set];exact hz) s.toks
 by_cases h0:0≤k
 ·have hk:k.toNat=j:=by
   rw[seqIndex_of h0 h4] at h1
   exact Option.some.inj h1
  exact PySem.W.ki_setAt ho h0 (by lia) (by rw[size_toArray,← hl];exact h4) (by rw[hk];exact⟨_,I',q⟩)
 ·have hk:(k+(its.toArray.size:Int)).toNat=j:=by
   rw[seqIndex_neg (by lia) h3] at h1
   rw[size_toArray,← hl]
   exact Option.some.inj h1
  exact PySem.W.ki_setBack ho (by lia) (by rw[size_toArray,← hl];exact h3) (by lia) (by rw[hk];exact⟨_,I',q⟩)
theorem Zh(lo hi:Option Int)(n:Nat):(sliceBounds lo hi none n).1=((HT.sIx n 0 lo:Nat):Int)∧(sliceBounds lo hi none n).2.1=((HT.sIx n n hi:Nat):Int)∧(sliceBounds lo hi none n).2.2=1:=by
 refine⟨?_,?_,rfl⟩
 ·cases lo with
  |none=>simp[sliceBounds,HT.sIx]
  |some i=>
   simp only[sliceBounds,HT.sIx,Option.getD_none,show(1:Int) > 0 by decide,if_true]
   by_cases h:i<0
   ·simp only[h,if_true] <;> lia
   ·simp only[h,if_false] <;> lia
 ·cases hi with
  |none=>simp[sliceBounds,HT.sIx]
  |some i=>
   simp only[sliceBounds,HT.sIx,Option.getD_none,show(1:Int) > 0 by decide,if_true]
   by_cases h:i<0
   ·simp only[h,if_true] <;> lia
   ·simp only[h,if_false] <;> lia
theorem jE(its:List Value)(lo hi:Option Int):slicePick its.toArray lo hi none=((its.drop (HT.sIx its.length 0 lo)).take (HT.sIx its.length its.length hi-HT.sIx its.length 0 lo)).toArray:=by
 obtain⟨h1,h2,h3⟩:=Zh lo hi its.toArray.size
 unfold slicePick
 rw[h1,h2,h3]
 simp only[sliceRange_one,pick_run,size_toArray] <;> rfl
noncomputable def rSlL(K:Frag):V→Option Int→Option Int→Hp→VK→Prop:=fun x lo hi H Q=>∃a xs,x=.ref a∧SqL K H a xs∧∀p,H p=none→Q (.ref p) (upd H p (.lst (X0 xs lo hi)))
theorem VR:SlR X (rSlL X.K):=by
 intro pins s σ H x v vl vu lo hi sl Q I rx hs pl pu h
 obtain⟨a,xs,rfl,hx,q⟩:=h
 cases rx
 obtain⟨its,r,ht,hz⟩:=I.list hx
 have hlen:=r.length
 refine⟨"list", _,slot_list_getitem.lookup,ht.isList.typeIs,?_⟩
 refine wpAny_getItem_list_slice ht.isList hs pl pu .none (by simp) ?_ (by rw[size_toArray] <;> lia)
 rw[jE,← hlen]
 refine⟨.ref s.heap.objs.size,_,I.laid (t':=s.toks) (o:=.lst (X0 xs lo hi)) (fun b ob q=>get?_push_of_some _ q) (le_refl _) ?_,rfl,q _ (I.hok.fresh (le_refl _))⟩
 exact⟨le_trans (Yl xs lo hi) hz,_,0,(r.drop (HT.sIx xs.length 0 lo)).take (HT.sIx xs.length xs.length hi-HT.sIx xs.length 0 lo),Heap.get?_push_size _ rfl⟩
theorem call_len_seq:CallR X (.builtin "len") (fun xs H Q=>∃p ys,xs=[.ref p]∧(SqL X.K H p ys∨SqT X.K H p ys)∧Q (.int ys.length) H):=by
 intro pins s σ H xs us Q I r h
 obtain⟨p,ys,rfl,hq,q⟩:=h
 obtain⟨u,rfl,rx⟩:=vals1 r
 cases rx
 have hn:=vj
 rcases hq with hq|hq
 ·obtain⟨its,r',pl,hz⟩:=I.list hq
  have hlen:=r'.length
  exact Calls.call_len_list pl.isList (by simp only[size_toArray] <;> lia) ⟨.int ys.length,H,I.tok _,⟨s.toks+1,by rw[size_toArray,hlen]⟩,q⟩
 ·obtain⟨its,r',pl,hz⟩:=I.tuple hq
  have hlen:=r'.length
  exact len_tuple pl (by simp only[size_toArray] <;> lia) ⟨.int ys.length,H,I.tok _,⟨s.toks+1,by rw[size_toArray,hlen]⟩,q⟩
theorem ZK:CallR X (.builtin "len") (fun xs H Q=>∃z,xs=[.str z]∧z.length≤sizeLine∧Q (.int z.length) H):=by
 intro pins s σ H xs us Q I r h
 obtain⟨z,rfl,hz,q⟩:=h
 obtain⟨u,rfl,t,rfl⟩:=vals1 r
 have hn:=vj
 exact len_str (by lia) ⟨.int z.length,H,I.tok _,⟨_,rfl⟩,q⟩
theorem CallR.or{f:Value}{r r':List V→Hp→VK→Prop}(h:CallR X f r)(h':CallR X f r'):CallR X f (fun xs H Q=>r xs H Q∨r' xs H Q):=by
 intro pins s σ H xs us Q I rs q
 rcases q with q|q
 ·exact h pins s σ H xs us Q I rs q
 ·exact h' pins s σ H xs us Q I rs q
noncomputable def tyV(K:Frag)(T:String)(x:V)(H:Hp):Prop:=match x with
 |.str _=>T = "str"
 |.int _=>T = "int"
 |.ref p=>(T = "list" ∧ ∃xs,SqL K H p xs)∨(T = "tuple" ∧ ∃o,K.lookup p=some o∧o.cls=.type "tuple" ∧ o.dict=none) ∨
   (T = "dict" ∧ ((∃kvs,H p=some (.dK kvs))∨∃kvs,H p=some (.dT kvs)))∨(T = "set" ∧ ∃S n,H p=some (.set S n))
 |_=>False
theorem Js{pins:List (Addr×Obj)}{σ:St}{H:Hp}{s:Shared}{T:String}{x:V}{v:Value}(I:Inv X pins σ H s)(r:RelV x v)(ty:tyV X.K T x H) :
  s.TypeIs v T∧∀a,v=.ref a→∃ob,s.heap.get? a=some ob∧ob.dict=none:=by
 cases x with
 |str z=>
  obtain⟨t,rfl⟩:=r
  cases (show T = "str" from ty)
  exact⟨typeIs_str s z t,fun _ e=>nomatch e⟩
 |int i=>
  obtain⟨t,rfl⟩:=r
  cases (show T = "int" from ty)
  exact⟨typeIs_int s i t,fun _ e=>nomatch e⟩
 |ref p=>
  cases r
  rcases ty with ⟨rfl,xs,hq⟩|⟨rfl,o,hk,hc,hd⟩|⟨rfl,hk⟩|⟨rfl,S,n,hk⟩
  ·obtain⟨its,_,pl,_⟩:=I.list hq
   refine⟨pl.isList.typeIs,fun a e=>?_⟩
   cases e
   obtain⟨o,n,e,c,hd,_⟩:=pl
   exact⟨o,e,hd⟩
  ·refine⟨⟨o,I.kIn p o hk,hc⟩,fun a e=>?_⟩
   cases e
   exact⟨o,I.kIn _ o hk,hd⟩
  ·have z:∃o,s.heap.get? p=some o∧o.ExactDict:=by
    rcases hk with ⟨kvs,hk⟩|⟨kvs,hk⟩
    ·obtain⟨_,_,_,_,o,_,_,e,ex,_⟩:=I.hok p _ hk
     exact⟨o,e,ex⟩
    ·obtain⟨_,_,_,_,o,_,_,e,ex,_⟩:=I.hok p _ hk
     exact⟨o,e,ex⟩
   obtain⟨o,e,ex⟩:=z
   refine⟨⟨o,e,ex.1⟩,fun a e2=>?_⟩
   cases e2
   exact⟨o,e,ex.2.1⟩
  ·obtain⟨o,_,_,_,e,ex,_⟩:=I.hok p _ hk
   refine⟨⟨o,e,ex.1⟩,fun a e2=>?_⟩
   cases e2
   exact⟨o,e,ex.2.1⟩
 |_=>exact False.elim ty
noncomputable def tBM(K:Frag)(T:String)(r:V→List V→Hp→VK→Prop)(to:TE)(t:TA):TE:=fun σ H Q=>to σ H fun x H1=>tyV K T x H1∧t σ H1 fun xs H2=>r x xs H2 Q
variable{o e:Expr}{es:List Expr}{to:TE}{t:TA}{name:Str}{apos cpos:Pos}{T id:String}{r:V→List V→Hp→VK→Prop}
theorem Je(pa:PlainAttrs T)(slot:Slot T name id)(hty:typeOf (.builtin id)=pure (.type "method_descriptor"))(hm:MtR X id r)(ho:PE X o to)(ha:PA X (e::es) t)
  (hbase:attributeBase o name X.env (eval o X.env)=eval o X.env:=by rfl)
  (hfew:((backTo cpos (starEach (e::es) X.env)).all (fun x=>!x.1)&&(backToKw cpos (keywordEach [] X.env)).all (fun x=>x.1.isSome)
   && decide ((e::es).length+([]:List Keyword).length+(if ([]:List Keyword).isEmpty then 0 else 1)<30))=true:=by rfl)
  (hline:(apos.endLine==cpos.line)=true:=by rfl) (hs:starEach (e::es) X.env=(false,eval e X.env)::starEach es X.env:=by rfl) (hplain:(backTo cpos (starEach es X.env)).any (·.1)=false:=by rfl) :
  PE X (.Call (.Attribute o name apos) (e::es) [] cpos) (tBM X.K T r to t):=by
 intro pins s σ H Q I h
 refine wpAny_Call_method_late hbase hfew hline rfl (thn (ho pins s σ H _ I h) fun v s1 z_=>?_)
 obtain⟨x,H1,I1,r1,ty,q1⟩:=z_
 obtain⟨h1,h2⟩:=Js I1 r1 ty
 refine⟨T,id,pa,slot,hty,h1,h2,?_⟩
 have hA:=ha cpos pins s1 σ H1 _ I1 q1
 rw[hs] at hA ⊢
 refine Calls.callWith_builtin (by show(false||(backTo cpos (starEach es X.env)).any (·.1))=false;rw[hplain] <;> rfl) (Calls.evalArgs_plain ?_)
 exact thn hA fun us s2 z_=>by obtain⟨vs,H2,I2,r2,q2⟩:=z_;exact hm pins s2 σ H2 x vs v us Q I2 r1 r2 q2
end
noncomputable def MtM(X:Cx)(id:String)(r:V→List V→Hp→VK→Prop):Prop:=
 ∀(pins:List (Addr×Obj)) (s:Shared) (σ:St) (H:Hp) (x:V) (xs:List V) (v:Value) (us:List Value) (Q:VK),Inv X pins σ H s→RelV x v→Vals xs us→r x xs H Q →
  wpAny (model X.prog X.w) X.A (call (.builtin id) (v::us)) (EP X pins σ Q) X.xe s
theorem Vals.one{x:V}{us:List Value}(h:Vals [x] us):∃u,us=[u]∧RelV x u:=by
 cases h with
 |cons r h=>cases h;exact⟨_,rfl,r⟩
theorem Vals.rep{xs:List V}{us:List Value}(h:Vals xs us):∀k:Nat,Vals (List.replicate k xs).flatten (List.replicate k us).flatten:=by
 intro l_
 induction l_ with
 |zero=>
  exact .nil
 |succ k ih_=>
  rw[replicate_succ,replicate_succ,flatten_cons,flatten_cons]
  exact Vals.append h (ih_)
theorem foldl_rep(its:List Value):∀(k:Nat) (acc:List Value),
  List.foldl (fun x1 x2=>x1++x2) acc.toArray (List.replicate k its.toArray)=(acc++(List.replicate k its).flatten).toArray:=by
 intro l_
 induction l_ with
 |zero=>
  rintro acc
  simp
 |succ k ih_=>
  rintro acc
  have e:acc.toArray++its.toArray=(acc++its).toArray:=by simp
  have e2:(acc++its)++(List.replicate k its).flatten=acc++(List.replicate (k+1) its).flatten:=by
   rw[replicate_succ,flatten_cons,append_assoc]
  rw[← e2,← ih_ (acc++its),← e,replicate_succ,foldl_cons]
section
variable{X:Cx}{pins:List (Addr×Obj)}{σ:St}{H:Hp}{s:Shared}{l b:Addr}{xs ys zs:List V}
theorem Inv.lset{its its':List Value}{n:Nat}{f:Array Value→Array Value}{t':Nat}(I:Inv X pins σ H s)(hH:H l=some (.lst xs))
  (e:s.heap.get? l=some { cls:=.type "list", data:=.seq its.toArray n }) (hf:f its.toArray=its'.toArray) (hv:Vals ys its') (hz:ys.length≤sizeLine) :
  Inv X pins σ (upd H l (.lst ys)) { s with heap:=s.heap.update l (Obj.mapSeq f),toks:=t' }:=by
 have q:=PySem.IsL.update e f
 rw[hf] at q
 refine I.write (x:=l) (e:=l) (by rw[hH];exact trivial) (.inl rfl) (fun b' u hb hu=>(Heap.get?_update_other s.heap (Obj.mapSeq f) (Ne.symm hb)).trans hu) ⟨_,q⟩ ?_
 exact⟨hz,its',_,hv,q⟩
theorem Inv.lnew{its:List Value}{t':Nat}(I:Inv X pins σ H s)(hv:Vals ys its)(hz:ys.length≤sizeLine) :
  Inv X pins σ (upd H s.heap.objs.size (.lst ys)) { s with heap:=s.heap.push { cls:=.type "list", data:=.seq its.toArray },toks:=t' }:=
 I.laid (fun _ _ q=>get?_push_of_some _ q) (le_refl _) ⟨hz,its,0,hv,Heap.get?_push_size _ rfl⟩
theorem Inv.fresh(I:Inv X pins σ H s):H s.heap.objs.size=none:=I.hok.fresh (le_refl _)
theorem Inv.lstM(I:Inv X pins σ H s)(hH:H l=some (.lst xs)):xs.length≤sizeLine∧∃(its:List Value) (n:Nat),Vals xs its∧xs.length=its.length∧s.heap.get? l=some { cls:=.type "list", data:=.seq its.toArray n }:=by
 obtain⟨z,its,n,r,e⟩:=I.hok l _ hH
 exact⟨z,its,n,r,r.length,e⟩
theorem WX{n:Nat}(h:n≤sizeLine):Builtin.List.listTooLong n=false:=by
 unfold Builtin.List.listTooLong
 exact decide_eq_false (by lia)
end
section
variable{X:Cx}
noncomputable def VZ:V→List V→Hp→VK→Prop:=fun x vs H Q=>∃l xs y,x=.ref l∧vs=[y]∧H l=some (.lst xs)∧xs.length<sizeLine∧Q .non (upd H l (.lst (xs++[y])))
theorem v9:MtM X "list.append" VZ:=by
 intro pins s σ H x vs v us Q I rx rv h
 obtain⟨l,xs,y,rfl,rfl,hH,hz,q⟩:=h
 cases rx
 obtain⟨u,rfl,ru⟩:=rv.one
 obtain⟨z,its,n,r,hl,e⟩:=I.lstM hH
 refine call_meets F.slot_list_append ⟨_,e,rfl⟩ F.entry_list_append (F.args_list_append_2 _ _) (PySem.list_append l its.toArray n u (by rw[size_toArray];lia)) ⟨e,?_⟩
 refine⟨.non,_,I.lset (its':=its++[u]) hH e (by simp) (r.append (.cons ru .nil)) ?_,rfl,q⟩
 rw[length_append,List.length_singleton]
 lia
noncomputable def rCat:R2:=fun x y H Q=>∃l b xs zs,x=.ref l∧y=.ref b∧H l=some (.lst xs)∧H b=some (.lst zs)∧xs.length+zs.length≤sizeLine∧∀p,H p=none→Q (.ref p) (upd H p (.lst (xs++zs)))
theorem JR:OpR X (binaryOp .Add) rCat:=by
 intro pins s σ H x y v u Q I rx ry h
 obtain⟨l,b,xs,zs,rfl,rfl,hH,hB,hz,q⟩:=h
 cases rx
 cases ry
 obtain⟨z,its,n,r,hl,e⟩:=I.lstM hH
 obtain⟨z2,its2,n2,r2,hl2,e2⟩:=I.lstM hB
 refine PySem.P.add_list e e2 ?_ (by rw[size_toArray,size_toArray];lia)
 have ea:its.toArray++its2.toArray=(its++its2).toArray:=by simp
 rw[ea]
 exact⟨.ref _,_,I.lnew (t':=s.toks) (r.append r2) (by rw[length_append];lia),rfl,q _ I.fresh⟩
noncomputable def rRep:R2:=fun x y H Q=>∃l k xs,x=.ref l∧y=.int k∧H l=some (.lst xs)∧-(2 ^ 63)≤k∧k<2 ^ 63∧xs.length*k.toNat≤sizeLine ∧
 ∀p,H p=none→Q (.ref p) (upd H p (.lst (List.replicate k.toNat xs).flatten))
theorem UH{α:Type}(xs:List α)(k:Nat):(List.replicate k xs).flatten.length=k*xs.length:=by
 induction k with
 |zero=>simp
 |succ k ih=>rw[replicate_succ,flatten_cons,length_append,ih,Nat.succ_mul,Nat.add_comm]
theorem JP:OpR X (binaryOp .Mult) rRep:=by
 intro pins s σ H x y v u Q I rx ry h
 obtain⟨l,k,xs,rfl,rfl,hH,h1,h2,hz,q⟩:=h
 cases rx
 obtain⟨t,rfl⟩:=ry
 obtain⟨z,its,n,r,hl,e⟩:=I.lstM hH
 have hlen:its.toArray.size*k.toNat≤sizeLine:=by rw[size_toArray,← hl];exact hz
 have hcap:¬ its.toArray.size*k.toNat > (2 ^ 63-1) / 8:=by
  have:(sizeLine:Nat)≤(2 ^ 63-1) / 8:=by decide
  lia
 have hfit:¬ (!Builtin.List.listFitsIndex k)=true:=by
  rw[fitsIndex_both h1 h2]
  exact Bool.false_ne_true
 have hlong:¬ Builtin.List.listTooLong (its.toArray.size*k.toNat)=true:=by
  rw[WX hlen]
  exact Bool.false_ne_true
 have hnew:List.foldl (fun x1 x2=>x1++x2) #[] (List.replicate (if its.toArray.isEmpty=true then 0 else k.toNat) its.toArray)=(List.replicate k.toNat its).flatten.toArray:=by
  have f0:∀m:Nat,List.foldl (fun x1 x2=>x1++x2) #[] (List.replicate m its.toArray)=(List.replicate m its).flatten.toArray:=fun m=>by
   have:=foldl_rep its m []
   rw[nil_append] at this
   exact this
  rw[f0]
  cases its with
  |nil=>simp
  |cons a r'=>rw[if_neg (by simp)]
 refine wpAny_binaryOp_repeat_ref (T := "list") (U := "int") (by decide) ⟨_,e,rfl⟩ (fun s'=>typeIs_int s' k t) noFill_list_mul F.fills_int_mul F.slot_int_rmul repeat_list F.slot_int_index.lookup
  (call_meets F.slot_int_rmul (typeIs_int s k t) F.entry_int_rmul (F.args_int_rmul_2 _ _) (int___rmul___int_list k t l its.toArray n)
   ⟨e,rfl,⟨_,e,rfl⟩,call_meets F.slot_list_mul ⟨_,e,rfl⟩ F.entry_list_mul (F.args_list_mul_2 _ _) (AutoListH.list___mul___list_int_3 l its.toArray n k t hfit hcap hlong) ⟨e,?_⟩⟩)
 rw[hnew]
 exact⟨.ref _,_,I.lnew (t':=s.toks) (r.rep k.toNat) (by rw[UH,Nat.mul_comm];exact hz),rfl,q _ I.fresh⟩
end
section
variable{prog:Program}{w:World}{A:Around}{E:Value→Shared→Prop}{s:Shared}
end
section
variable{X:Cx}
end
end L2
namespace Att
open PySem PySem.W PySem.Calls PyProof.Rows
theorem uA{P:Params}{h:Heap}:∀(ns:List Int) (vs:List Value),WellAll P h vs (ns.map WData.int)→IntsAre vs ns:=by
 intro ns
 induction ns with
 |nil=>
  intro vs w
  rw[map_nil] at w
  cases w
  exact .nil
 |cons n ns ih=>
  intro vs w
  rw[map_cons] at w
  cases w with
  |cons a b=>
   cases a
   exact .cons _ _ (ih _ b)
theorem Xx{l:OpenLaw}{n:Nat}(hn:l.most=some n){P:Params}{h:Heap}{args:List WData}{vals:List Value}
  (hpre:l.row.toRowW.claim.pre args=true) (hwl:WellAll P h vals args) :
  ∃a vs ns,vals=[Value.ref a]∧args=[WData.list (ns.map WData.int)]∧h.get? a=some { cls:=.type "list", data:=.seq vs.toArray }∧IntsAre vs ns∧ns.length≤n:=by
 have hsh:WShape.hasAll [] args [.list .int]=true:=(pre_splitW hpre).1
 have hc:l.pre.holds [] { args:=args }=true:=(pre_splitW hpre).2
 obtain⟨d,r,rfl,h1,h2⟩:=hasAllW_cons hsh
 obtain rfl:=hasAllW_nil h2
 obtain⟨xs,rfl,h3⟩:=hasW_list h1
 obtain⟨ns,rfl⟩:=items_int h3
 have hlen:ns.length≤n:=by
  unfold OpenLaw.pre at hc
  have h4:(WTm.not (.lt (.lit (.int (n:Int))) (.len (.arg 0)))).holds [] { args:=[.list (ns.map .int)] }=true:=by
   have h4:=(holds_andW hc).1
   rw[hn] at h4
   exact h4
  have h5:=condW_of h4 (w_not (w_lt w_lit (w_len_list (w_arg rfl))))
  rw[length_map] at h5
  refine Nat.le_of_not_lt fun q=>?_
  have q':(n:Int)<((ns.length:Nat):Int):=by lia
  first
   | (rw[decide_eq_true q'] at h5;exact absurd h5 (by decide))
   | (simp at h5;lia)
 cases hwl with
 |cons w1 w2=>
  cases w2
  cases w1 with
  |list ho hall=>exact⟨_,_,ns,rfl,rfl,ho,uA ns _ hall,hlen⟩
theorem XB(l:OpenLaw)(args:List WData):l.row.toRowW.claim.post args (.bool true) args=true:=
 postW_of (r:=l.row.toRowW) (X:=(true==true))
  (show WShape.has [] (.bool true) .bool=true by first|rfl|decide|simp[WShape.has,WShape.arms,WShape.armsAll])
  (show(WTm.eq .res (.lit (.bool true))).value [] { args:=args,res:=some (.bool true),after:=args }=some (.bool (true==true)) from w_eq_bool (w_res rfl) w_lit) rfl
theorem attach_call{l:OpenLaw}{n:Nat}{q:Program}{loose:List Str}{XP:(Str→Option Value)→Heap→Prop}{YP:World→Heap→Prop}{d:DefRec}
  (hn:l.most=some n) (hdf:d.params.defaults=[])
  (call:∀(w:World) (s₀ s₁:Shared) (mg mb:Str→Option Value) (fa:Addr) (o:Obj) (pm cd doc:Value) (a:Addr) (vs:List Value) (ns:List Int),
   Ground q loose [] XP w s₀ mg mb s₁.heap→YP w s₁.heap →
   s₁.heap.get? fa=some o→o.data=.func (docDef d.name d.params d.body d.scope pm cd doc)→s₁.heap.CodeRec cd d.name→mg d.name=some (.ref fa) →
   s₁.heap.get? a=some { cls:=.type "list", data:=.seq vs.toArray }→IntsAre vs ns→ns.length≤n→s₁.gens = #[] →
   codeAny (model l.prog w) callerA (.call (.ref fa) ⟨[.ref a],[]⟩) (fun r s'=>r=.ok (.ret (.bool true))∧OldK s₁.heap s'.heap∧s'.os=s₁.os∧AllBare s'.gens) s₁) :
  WalkO q loose XP YP l.row.toRowW d [] (fun f vs=>PySem.call f vs):=by
 intro w s₀ s₁ mg mb G Y fa o pm cd doc dV kV ho hd hcd hD hmg hg args vals as hpre hlay hrd hwl hlo
 obtain rfl:dV=.none:=Dflts.none hD hdf
 obtain rfl:kV=.none:=Dflts.noKw hD
 obtain⟨a,vs,ns,rfl,rfl,hobj,hints,hlen⟩:=Xx hn hpre hwl
 refine enter_call (codeAny_mono (call w s₀ s₁ mg mb fa o pm cd doc a vs ns G Y ho (fd_plain hd) hcd hmg hobj hints hlen hg) fun r s' hq=>?_)
 obtain⟨rfl,h2,h3,h4⟩:=hq
 exact⟨.inl ⟨.bool true,.bool true,[],rfl,fun _=>rfl,.bool true,XB l _,fun _=>⟨List.Pairwise.nil,fun _ hm=>(nomatch hm)⟩⟩,h2,h3,h4⟩
section
variable{prog:Program}{w:World}{A:Around}{E:Value→Shared→Prop}{s:Shared}{K:Frag}
end
end Att
namespace L2
open PySem PySem.Spec PyProof.Rows
theorem vals_ints:∀{vs:List Value} {ns:List Int},IntsAre vs ns→Vals (ns.map V.int) vs
 |_,_,.nil=>.nil
 |_,_,.cons n t h=>.cons ⟨t,rfl⟩ (vals_ints h)
noncomputable def Qs(H:Hp):Prop:=∀b,H b=none∨∃o xs,H b=some (.frz o (.lst xs))
theorem W6{P:Program}{w:World}{K:Frag}{mg mb:Str→Option Value}{CX:CXT}{k:Nat}{fa a:Addr}{fd:FuncData}{x:Str}{sp:Sp}{s₁:Shared}{vs:List Value}{ns:List Int}
  (KX:K.In s₁.heap) (hns:s₁.heap.Ns mainGlobals mg) (hb:s₁.heap.Ns builtinsNs mb) (hbb:∀x:Str,x ≠ "__name__" → mb x=bootBuiltins x) (hlim:s₁.heap.NoLimit) (hg:s₁.gens = #[])
  (ha:s₁.heap.get? a=some { cls:=.type "list", data:=.seq vs.toArray }) (hi:IntsAre vs ns) (hl:ns.length≤sizeLine) (hr:Room k callerA)
  (F:∀base:Heap,K.In base→base.Ns mainGlobals mg→FnOk P w K mg base CX k fa fd [x] sp) (hbind:∀(s:Shared) (u:Value),BindsTo s fd ⟨[u],[]⟩ [(x,u)])
  (hsp:∀H:Hp,Qs H→SqL K H a (ns.map V.int)→sp [.ref a] H (fun v _=>v=.bl true) fun _ _ _=>False)
  (hCX:∀H e s',CX [] H s₁ (fun _ _ _=>False) e s'→False) :
  codeAny (model P w) callerA (.call (.ref fa) ⟨[.ref a],[]⟩) (fun r s'=>r=.ok (.ret (.bool true))∧OldK s₁.heap s'.heap∧s'.os=s₁.os∧AllBare s'.gens) s₁:=by
 have rv:=vals_ints hi
 have lenV:=hi.length
 have core:∀H:Hp,Qs H→SqL K H a (ns.map V.int)→HOk P w H s₁.heap→(∀b,H b≠none→b=a)→(H a≠none→K.lookup a=none) →
   codeAny (model P w) callerA (.call (.ref fa) ⟨[.ref a],[]⟩) (fun r s'=>r=.ok (.ret (.bool true))∧OldK s₁.heap s'.heap∧s'.os=s₁.os∧AllBare s'.gens) s₁:=by
  intro H hO hS hok hA hK
  have base_of:∀{b:Addr} {o:Obj},s₁.heap.get? b=some o→H b=none→(ZD s₁.heap H).get? b=some o:=fun e n=>Vf e n
  have noA:∀{b:Addr} {o:Obj} {es:Array DictEntry} {ep:Nat},s₁.heap.get? b=some o→o.data=.dict es ep→H b=none:=fun {b o es ep} e d=>by
   cases q:H b with
   |none=>rfl
   |some u=>
    have e':b=a:=hA b (by rw[q];simp)
    subst e'
    rw[ha] at e;cases e
    have d':Data.seq vs.toArray _=Data.dict es ep:=d
    cases d'
  have nsK:∀{b:Addr} {m:Str→Option Value},s₁.heap.Ns b m→(ZD s₁.heap H).Ns b m:=fun {b m} ⟨o,es,ep,e,d,r⟩=>⟨o,es,ep,base_of e (noA e d),d,r⟩
  have hKb:K.In (ZD s₁.heap H):=fun b o e=>base_of (KX b o e) (by
   cases q:H b with
   |none=>rfl
   |some u=>
    have e':b=a:=hA b (by rw[q];simp)
    subst e'
    rw[hK (by rw[q];simp)] at e;cases e)
  have hM:Mod K mg (ZD s₁.heap H):=⟨hKb,nsK hns,⟨mb,nsK hb,hbb⟩,let ⟨mc,h1,h2⟩:=hlim;⟨mc,nsK h1,h2⟩⟩
  have e0:U9 P w K mg (ZD s₁.heap H) callerA [] s₁ H:=⟨rfl,hM,fun b o e=>Ut e,Nat.le_of_eq (XW _ _),trivial,fun b hb=>absurd (show b∈([]:List Addr) from hb) (by simp),hok,.of_eq hg⟩
  refine codeAny_mono ((F _ hKb (nsK hns)).run callerA [] s₁ H ⟨[.ref a],[]⟩ [.ref a] [.ref a] _ _ hr e0 (hbind s₁ (.ref a)) (.cons rfl .nil) (hsp H hO hS)) fun r s' h=>?_
  cases r with
  |error e=>exact(hCX H e s' h).elim
  |ok fl=>
   cases fl with
   |next=>exact False.elim h
   |brk=>exact False.elim h
   |cont=>exact False.elim h
   |ret u=>
    obtain⟨v,H',os,bare,un,hok',r',q⟩:=h
    have q':v=.bl true:=q
    subst q'
    obtain rfl:u=Value.bool true:=r'
    refine⟨rfl,OldK.of_keep fun b o e=>?_,os,bare⟩
    cases q:H b with
    |none=>exact un.keep b o e q (by intro z;exact absurd (show b∈([]:List Addr) from z) (by simp)) (by simp)
    |some u=>
     rcases hO b with z|⟨ob,xs,z⟩
     ·rw[q] at z;cases z
     ·have z2:=un.frzs b ob _ z
      obtain⟨e1,_⟩:=hok b _ z
      obtain⟨e2,_⟩:=hok' b _ z2
      rw[e] at e1;cases e1
      exact e2
 cases hk:K.lookup a with
 |some o=>
  have e:=KX a o hk
  rw[ha] at e
  cases e
  refine core (fun _=>none) (fun _=>.inl rfl) (.inr ⟨_,vs.toArray,_,hk,rfl,rfl,rfl,by rw[size_toArray,lenV];exact hl,by simpa using rv⟩) (fun b u z=>by have z':(none:Option HO)=some u:=z;cases z') (fun b z=>absurd rfl z) fun z=>absurd rfl z
 |none=>
  refine core (fun b=>if b=a then some (.frz { cls:=.type "list", data:=.seq vs.toArray } (.lst (ns.map V.int))) else none) (fun b=>?_) (.inl (.inr ⟨{ cls:=.type "list", data:=.seq vs.toArray },if_pos rfl⟩)) (fun b u z=>?_) (fun b z=>?_) fun _=>hk
  ·by_cases hb:b=a
   ·exact .inr ⟨_,_,if_pos hb⟩
   ·exact .inl (if_neg hb)
  ·by_cases hb:b=a
   ·have z':=(if_pos hb).symm.trans z
    cases z'
    subst hb
    exact⟨ha,by rw[length_map];exact hl,vs,_,rv,ha⟩
   ·have z':=(if_neg hb).symm.trans z
    cases z'
  ·by_cases hb:b=a
   ·exact hb
   ·exact absurd (if_neg hb) z
theorem walk_of{l:PySem.W.OpenLaw}{n k:Nat}{q:Program}{loose:List Str}{XP:(Str→Option Value)→Heap→Prop}{YP:World→Heap→Prop}{d:DefRec}{K:Params→Frag}{CX:World→CXT}{sp:World→Sp}{x:Str}
  (hn:l.most=some n) (hn2:n≤sizeLine) (hdf:d.params.defaults=[]) (hr:Room k callerA)
  (hY:∀(w:World) (h:Heap),YP w h→(K w.params).In h)
  (F:∀(w:World) (mg:Str→Option Value) (fa:Addr) (h:Heap),(K w.params).In h→h.Ns mainGlobals mg→mg d.name=some (.ref fa) →
   ∃fd:FuncData,(∀(s:Shared) (u:Value),BindsTo s fd ⟨[u],[]⟩ [(x,u)]) ∧
    ∀base:Heap,(K w.params).In base→base.Ns mainGlobals mg→FnOk l.prog w (K w.params) mg base (CX w) k fa fd [x] (sp w))
  (hsp:∀(w:World) (H:Hp) (a:Addr) (ns:List Int),ns.length≤n→Qs H→SqL (K w.params) H a (ns.map V.int)→sp w [.ref a] H (fun v _=>v=.bl true) fun _ _ _=>False)
  (hCX:∀(w:World) (H:Hp) (s:Shared) (e:Value) (s':Shared),CX w [] H s (fun _ _ _=>False) e s'→False) :
  PySem.W.WalkO q loose XP YP l.row.toRowW d [] (fun f vs=>PySem.call f vs):=by
 refine Att.attach_call hn hdf fun w s₀ s₁ mg mb fa o pm cd doc a vs ns G Y ho hd hcd hmg hobj hints hlen hg=>?_
 have KX:=hY w _ Y
 obtain⟨fd,hb,hF⟩:=F w mg fa _ KX G.T.g hmg
 exact W6 KX G.T.g G.T.b G.T.builtins G.T.nolimit hg hobj hints (le_trans hlen hn2) hr hF hb (fun H hO hS=>hsp w H a ns hlen hO hS) fun H e s'=>hCX w H s₁ e s'
noncomputable def zO(s:Stmt):Arguments:=match s with
 |.FunctionDef _ a _ _ _ _ _ _ _ _=>a
 |_=>{ posonlyargs:=[],args:=[],vararg:=none,kwonlyargs:=[],kw_defaults:=[],kwarg:=none,defaults:=[] }
noncomputable def zE(s:Stmt):List Stmt:=match s with
 |.FunctionDef _ _ b _ _ _ _ _ _ _=>b
 |_=>[]
noncomputable def zi(s:Stmt):Scope:=match s with
 |.FunctionDef _ _ _ _ _ _ sc _ _ _=>sc
 |_=>{ kind:=.function,names:=[],isGenerator:=false,isCoroutine:=false }
noncomputable abbrev CX0:CXT:=fun _ _ _ _ _ _=>False
noncomputable abbrev E0:XK:=fun _ _ _=>False
theorem pass0{X:Cx}:YO CX0 X E0:=fun _ _ _ _ _ _ _ h=>h.elim
structure Fun(K:Frag)(x qual:Str)(st:Stmt)(f:Addr)(fd:FuncData):Prop where
 ex:∃(oc:Value) (od:Option Addr) (kV doc pm:Value) (an:Option Addr) (cdv ct:Value) (osl:Array (Option Value)),
  fd=fnOf x qual (zO st) (zE st) (zi st) .none kV doc pm an cdv ct∧K.lookup f=some ⟨oc,od,.func fd,osl⟩∧codeIn K cdv qual=true
 kp:keepIn K (.ref f)=true
section
variable{P:Program}{w:World}{K:Frag}{mg:Str→Option Value}{base:Heap}
theorem Fun.ok{x qual:Str}{st:Stmt}{f:Addr}{fd:FuncData}{N ps:List Str}{k:Nat}{sp:Sp}(F:Fun K x qual st f fd)(S:zP N ps (zi st))(len:∀vs H Q E,sp vs H Q E→vs.length=ps.length)
  (hbody:∀(cdv:Value) (A:Around) (outer:List Env) (s:Shared) (H:Hp) (vs:List V) (Q:VK) (E:XK),Room k (A.deeper (envOfC qual (zi st) s.heap.objs.size f cdv))→sp vs H Q E →
   ∃t,PSs (jq CX0 P w K mg base N qual (zi st) f cdv A outer s H E).nox (zE st) t∧t { nx:=fun _ H'=>Q .non H',rt:=Q } (start N vs) H):FnOk P w K mg base CX0 (k+1) f fd ps sp:=by
 obtain⟨oc,od,kV,doc,pm,an,cdv,ct,osl,rfl,lk,hcd⟩:=F.ex
 refine Jm lk hcd S len fun A outer s H vs Q E hr hsp=>?_
 obtain⟨t,h,q⟩:=hbody cdv A outer s H vs Q E hr hsp
 exact⟨t,h.nox,q⟩
theorem Fun.binds{x qual:Str}{st:Stmt}{f:Addr}{fd:FuncData}{ps:List Str}(F:Fun K x qual st f fd)
  (h:∀(kV doc pm:Value) (an:Option Addr) (cdv ct:Value) (us:List Value),us.length=ps.length→bindArgs (fnOf x qual (zO st) (zE st) (zi st) .none kV doc pm an cdv ct) ⟨us,[]⟩=pure (ps.zip us)):Binds K fd ps []:=by
 obtain⟨oc,od,kV,doc,pm,an,cdv,ct,osl,rfl,lk,hcd⟩:=F.ex
 exact .all (h kV doc pm an cdv ct)
theorem yX{x qual:Str}{st:Stmt}{f:Addr}{oc:Value}{od an:Option Addr}{osl:Array (Option Value)}{kV doc pm cdv ct:Value}(l:K.lookup f=some ⟨oc,od,.func (fnOf x qual (zO st) (zE st) (zi st) .none kV doc pm an cdv ct),osl⟩)
  (c:codeIn K cdv qual=true) (k:keepIn K (.ref f)=true):Fun K x qual st f (fnOf x qual (zO st) (zE st) (zi st) .none kV doc pm an cdv ct):=⟨⟨oc,od,kV,doc,pm,an,cdv,ct,osl,rfl,l,c⟩,k⟩
end
section
variable{X:Cx}
theorem pv(i:Nat){x:Str}{pos:Pos}(hN:X.N[i]?=some x:=by rfl)(hv:Vis X.env.scope x:=by first|exact Or.inl rfl|exact Or.inr (Or.inl rfl) | exact Or.inr (Or.inr rfl))(hd:(x==("__debug__" : Str))=false:=by decide)
  (hcd:(x==("__classdict__" : Str))=false:=by decide):PE X (.Name x pos) (ZR i):=JH hN hv hd hcd
end
noncomputable def Same(H H':Hp):Prop:=∀b o,H b=some o→H' b=some o
theorem Same.refl(H:Hp):Same H H:=fun _ _ h=>h
theorem Same.trans{H H1 H2:Hp}(a:Same H H1)(b:Same H1 H2):Same H H2:=fun c o h=>b c o (a c o h)
theorem Same.seq{K:Frag}{H H':Hp}{a:Addr}{xs:List V}(e:Same H H')(h:SqL K H a xs):SqL K H' a xs:=by
 rcases h with (h|⟨o,h⟩) | h
 ·exact .inl (.inl (e _ _ h))
 ·exact .inl (.inr ⟨o,e _ _ h⟩)
 ·exact .inr h
end L2
namespace FD
open PySem PySem.Spec PyProof.Rows L2
noncomputable abbrev St:=L2.St
inductive D where
 | non|bl (b:Bool) | int (i:Int) | str (x:Str) | lst (xs:List D) | tup (xs:List D) | scr (ns:List Int) | raw (v:V) | exc (c:Str) | dct (ks:List Key) (ds:List D)
inductive Rs (α:Type) where
 | ok (a:α) | ex (c:Str) | no
noncomputable def Rs.bind{α β:Type}(r:Rs α)(k:α→Rs β):Rs β:=match r with
 |.ok a=>k a
 |.ex c=>.ex c
 |.no=>.no
@[simp] theorem Rs.bind_ok{α β:Type}(a:α)(k:α→Rs β):(Rs.ok a).bind k=k a:=rfl
noncomputable def Yf(K:Frag)(a:Addr)(c:Str):Heap→Prop:=fun h=>∃oe cls vs,h.get? a=some oe∧oe.cls=cls∧oe.dict=none∧oe.data=.fields vs∧nsIn K mainGlobals c=some (some cls)
section
variable(K:Frag)
mutual
noncomputable def Rep(F:Hp):D→V→Prop
 |.non,v=>v=.non
 |.bl b,v=>v=.bl b
 |.int i,v=>v=.int i
 |.str x,v=>v=.str x
 |.lst ds,v=>∃a vs,v=.ref a∧F a=some (.lst vs)∧Reps F ds vs
 |.scr ns,v=>∃a,v=.ref a∧SqL K F a (ns.map V.int)
 |.tup ds,v=>∃a vs,v=.ref a∧SqT K F a vs∧Reps F ds vs
 |.raw u,v=>v=u
 |.exc c,v=>∃a,v=.ref a∧F a=some (.ext (Yf K a c))
 |.dct ks ds,v=>∃a kvs o,v=.ref a∧F a=some (.frz o (.dK kvs))∧kvs.map (·.1)=ks∧Reps F ds (kvs.map (·.2))
noncomputable def Reps(F:Hp):List D→List V→Prop
 |[],vs=>vs=[]
 |d::ds,vs=>∃v r,vs=v::r∧Rep F d v∧Reps F ds r
end
end
theorem Same.refl(H:Hp):Same H H:=fun _ _ h=>h
theorem Same.seqT{K:Frag}{H H':Hp}{a:Addr}{xs:List V}(e:Same H H')(h:SqT K H a xs):SqT K H' a xs:=by
 rcases h with (h|⟨o,h⟩) | h
 ·exact .inl (.inl (e _ _ h))
 ·exact .inl (.inr ⟨o,e _ _ h⟩)
 ·exact .inr h
section
variable{K:Frag}{F F':Hp}
mutual
theorem Rep.mono(h:Same F F'):∀{d:D} {v:V},Rep K F d v→Rep K F' d v
 |.non,_,r=>by simpa only[Rep] using r
 |.bl _,_,r=>by simpa only[Rep] using r
 |.int _,_,r=>by simpa only[Rep] using r
 |.str _,_,r=>by simpa only[Rep] using r
 |.raw _,_,r=>by simpa only[Rep] using r
 |.exc c,v,r=>by
  simp only[Rep] at r ⊢
  obtain⟨a,e,q⟩:=r
  exact⟨a,e,h _ _ q⟩
 |.dct ks ds,v,r=>by
  simp only[Rep] at r ⊢
  obtain⟨a,kvs,o,e,q,k,t⟩:=r
  exact⟨a,kvs,o,e,h _ _ q,k,Reps.mono h t⟩
 |.lst ds,v,r=>by
  simp only[Rep] at r ⊢
  obtain⟨a,vs,e,q,t⟩:=r
  exact⟨a,vs,e,h _ _ q,Reps.mono h t⟩
 |.scr ns,v,r=>by
  simp only[Rep] at r ⊢
  obtain⟨a,e,q⟩:=r
  exact⟨a,e,h.seq q⟩
 |.tup ds,v,r=>by
  simp only[Rep] at r ⊢
  obtain⟨a,vs,e,q,t⟩:=r
  exact⟨a,vs,e,Same.seqT h q,Reps.mono h t⟩
theorem Reps.mono(h:Same F F'):∀{ds:List D} {vs:List V},Reps K F ds vs→Reps K F' ds vs
 |[],_,r=>by simpa only[Reps] using r
 |d::ds,vs,r=>by
  simp only[Reps] at r ⊢
  obtain⟨v,r',e,q,t⟩:=r
  exact⟨v,r',e,Rep.mono h q,Reps.mono h t⟩
end
theorem Reps.length:∀{ds:List D} {vs:List V},Reps K F ds vs→ds.length=vs.length
 |[],_,r=>by simp only[Reps] at r;subst r;rfl
 |d::ds,_,r=>by
  simp only[Reps] at r
  obtain⟨v,r',rfl,_,t⟩:=r
  simp[Reps.length t]
theorem Reps.get:∀{ds:List D} {vs:List V} {i:Nat} {d:D},Reps K F ds vs→ds[i]?=some d→∃v,vs[i]?=some v∧Rep K F d v
 |[],_,_,_,_,e=>by simp at e
 |d::ds,_,0,_,r,e=>by
  simp only[Reps] at r
  obtain⟨v,r',rfl,q,t⟩:=r
  simp at e;subst e
  exact⟨v,rfl,q⟩
 |d::ds,_,i+1,_,r,e=>by
  simp only[Reps] at r
  obtain⟨v,r',rfl,q,t⟩:=r
  obtain⟨w,h1,h2⟩:=Reps.get (i:=i) t (by simpa using e)
  exact⟨w,by simpa using h1,h2⟩
theorem Reps.nil:Reps K F [] []:=by simp only[Reps]
theorem Reps.cons{d:D}{v:V}{ds:List D}{vs:List V}(h:Rep K F d v)(t:Reps K F ds vs):Reps K F (d::ds) (v::vs):=by
 simp only[Reps];exact⟨v,vs,rfl,h,t⟩
theorem Reps.append:∀{ds es:List D} {vs ws:List V},Reps K F ds vs→Reps K F es ws→Reps K F (ds++es) (vs++ws)
 |[],_,_,_,r,t=>by simp only[Reps] at r;subst r;exact t
 |d::ds,es,_,ws,r,t=>by
  simp only[Reps] at r
  obtain⟨v,r',rfl,q,u⟩:=r
  exact Reps.cons q (Reps.append u t)
theorem Reps.take:∀{ds:List D} {vs:List V} (n:Nat),Reps K F ds vs→Reps K F (ds.take n) (vs.take n)
 |_,_,0,_=>by simp only[List.take_zero];exact Reps.nil
 |[],_,n+1,r=>by simp only[Reps] at r;subst r;simp only[List.take_nil];exact Reps.nil
 |d::ds,_,n+1,r=>by
  simp only[Reps] at r
  obtain⟨v,r',rfl,q,u⟩:=r
  exact Reps.cons q (Reps.take n u)
theorem Reps.drop:∀{ds:List D} {vs:List V} (n:Nat),Reps K F ds vs→Reps K F (ds.drop n) (vs.drop n)
 |_,_,0,r=>r
 |[],_,n+1,r=>by simp only[Reps] at r;subst r;simp only[List.drop_nil];exact Reps.nil
 |d::ds,_,n+1,r=>by
  simp only[Reps] at r
  obtain⟨v,r',rfl,q,u⟩:=r
  exact Reps.drop n u
theorem Reps.set{d:D}{v:V}(h:Rep K F d v):∀{ds:List D} {vs:List V} (i:Nat),Reps K F ds vs→Reps K F (ds.set i d) (vs.set i v)
 |[],_,_,r=>by simp only[Reps] at r;subst r;exact Reps.nil
 |e::ds,_,0,r=>by
  simp only[Reps] at r
  obtain⟨w,r',rfl,q,u⟩:=r
  exact Reps.cons h u
 |e::ds,_,i+1,r=>by
  simp only[Reps] at r
  obtain⟨w,r',rfl,q,u⟩:=r
  exact Reps.cons q (Reps.set h i u)
theorem Reps.one{d:D}{vs:List V}(h:Reps K F [d] vs):∃v,vs=[v]∧Rep K F d v:=by
 simp only[Reps] at h
 obtain⟨v,r,e,q,e2⟩:=h
 subst e2;exact⟨v,e,q⟩
theorem Reps.two{d e:D}{vs:List V}(h:Reps K F [d,e] vs):∃v w,vs=[v,w]∧Rep K F d v∧Rep K F e w:=by
 simp only[Reps] at h
 obtain⟨v,r,e1,q,w,r2,e2,q2,e3⟩:=h
 subst e3;subst e2;exact⟨v,w,e1,q,q2⟩
theorem Reps.rep{ds:List D}{vs:List V}(h:Reps K F ds vs):∀k:Nat,Reps K F (List.replicate k ds).flatten (List.replicate k vs).flatten:=by
 intro l_
 induction l_ with
 |zero=>
  exact Reps.nil
 |succ k ih_=>
  rw[replicate_succ,replicate_succ,flatten_cons,flatten_cons]
  exact Reps.append h (ih_)
theorem Reps.ints:∀(ns:List Int),Reps K F (ns.map D.int) (ns.map V.int):=by
 intro l_
 induction l_ with
 |nil=>
  exact Reps.nil
 |cons n r ih_=>
  exact Reps.cons (by simp only[Rep]) (ih_)
end
class Tabs where
 rows:List (Addr×Nat×Nat×Str)
 own:Str→Str→Bool
noncomputable def Qm(c:Addr)(q:Str):Heap→Prop:=fun h=>h.CodeRec (.ref c) q
noncomputable def TOk(F H:Hp)(r:Addr×Nat×Nat×Str):Prop:=F r.1=none∧(H r.1=some (.tbl #[])∨∃c,H r.1=some (.tbl #[rawInt r.2.1,rawInt r.2.2.1,.ref c])∧H c=some (.ext (Qm c r.2.2.2)))
variable[Tabs]
noncomputable def OwnOk(H:Hp):Prop:=∀d a,H d=some (.own a)→∃C dx vs,H a=some (.ins C dx vs)
noncomputable def TbT(F H:Hp):Prop:=(∀r∈Tabs.rows,TOk F H r)∧OwnOk H
omit [Tabs] in
theorem TOk.step{F H F' H':Hp}{r:Addr×Nat×Nat×Str}(t:TOk F H r)(nw:∀a o,F' a=some o→F a=some o∨H a=none)(k:∀a o,H a=some o→(∀vs,o≠.lst vs)→H' a=some o):TOk F' H' r:=by
 have hn:∀ps,H r.1=some (.tbl ps)→F' r.1=none:=fun ps e=>by
  cases q:F' r.1 with
  |none=>rfl
  |some o=>
   rcases nw _ _ q with z|z
   ·rw[t.1] at z;cases z
   ·rw[e] at z;cases z
 rcases t.2 with e|⟨c,e,e2⟩
 ·exact⟨hn _ e,.inl (k _ _ e fun _ z=>nomatch z)⟩
 ·exact⟨hn _ e,.inr ⟨c,k _ _ e (fun _ z=>nomatch z),k _ _ e2 fun _ z=>nomatch z⟩⟩
theorem TbT.step{F H F' H':Hp}(t:TbT F H)(nw:∀a o,F' a=some o→F a=some o∨H a=none)(k:∀a o,H a=some o→(∀vs,o≠.lst vs)→H' a=some o)(no:∀d a,H' d=some (.own a)→H d=some (.own a)):TbT F' H':=⟨fun r hr=>(t.1 r hr).step nw k,fun d a e=>by
 obtain⟨C,dx,vs,h⟩:=t.2 d a (no d a e)
 exact⟨C,dx,vs,k _ _ h fun _ z=>nomatch z⟩⟩
theorem TbT.freeze{F H:Hp}{a:Addr}{vs:List V}{o:HO}(t:TbT F H)(e:H a=some (.lst vs)):TbT (upd F a o) H:=⟨fun r hr=>by
 obtain⟨t1,t2⟩:=t.1 r hr
 have:r.1≠a:=fun z=>by
  rw[z,e] at t2
  rcases t2 with q|⟨c,q,_⟩ <;> cases q
 exact⟨by rw[zm this];exact t1,t2⟩,t.2⟩
noncomputable def Kp:HO→Option HO→Prop
 |.tbl _,r=>∃ps,r=some (.tbl ps)
 |o,r=>r=some o
noncomputable def Hh(H H':Hp):Prop:=∀b o,H b=some o→Kp o (H' b)
omit [Tabs] in
theorem Kp.of{o:HO}{r:Option HO}(h:r=some o):Kp o r:=by cases o <;> first|exact h|exact⟨_,h⟩
omit [Tabs] in
theorem Kp.some{o:HO}{r:Option HO}(h:Kp o r):r≠none:=by
 cases o <;> first | (obtain⟨_,h⟩:=h;rw[h];simp) | (have h:r=_:=h;rw[h];simp)
omit [Tabs] in
theorem Hh.of{H H':Hp}(h:Same H H'):Hh H H':=fun b o e=>.of (h b o e)
omit [Tabs] in
theorem Hh.refl(H:Hp):Hh H H:=.of (Same.refl H)
omit [Tabs] in
theorem Hh.trans{H H1 H2:Hp}(a:Hh H H1)(b:Hh H1 H2):Hh H H2:=fun c o e=>by
 have k:=a c o e
 cases o <;> first|exact b c _ k | (obtain⟨ps,q⟩:=k;show ∃ps,H2 c=some (.tbl ps);exact b c _ q)
omit [Tabs] in
theorem xN{F H:Hp}(h:Hh F H){a:Addr}(e:H a=none):F a=none:=by
 cases q:F a with
 |none=>rfl
 |some o=>exact absurd e (h a o q).some
structure Ext(F H F' H':Hp):Prop where
 ff:Same F F'
 hh:Hh H H'
 fh:Same F' H'
 nw:∀a o,F' a=some o→F a=some o∨H a=none
 tt:TbT F H→TbT F' H'
theorem Ext.refl{F H:Hp}(h:Same F H):Ext F H F H:=⟨Same.refl F,Hh.refl H,h,fun _ _ e=>.inl e,id⟩
theorem Ext.trans{F H F1 H1 F2 H2:Hp}(a:Ext F H F1 H1)(b:Ext F1 H1 F2 H2):Ext F H F2 H2:=
 ⟨a.ff.trans b.ff,a.hh.trans b.hh,b.fh,fun c o e=>by
  rcases b.nw c o e with q|q
  ·exact a.nw c o q
  ·exact .inr (xN a.hh q),fun t=>b.tt (a.tt t)⟩
omit [Tabs] in
theorem zv{F H:Hp}(h:Same F H){a:Addr}(e:H a=none):F a=none:=by
 cases q:F a with
 |none=>rfl
 |some o=>rw[h a o q] at e;cases e
omit [Tabs] in
theorem zI{H:Hp}{p:Addr}{o:HO}(h:H p=none):Same H (upd H p o):=fun b u q=>by rw[zm (zx q h)];exact q
omit [Tabs] in
theorem Xy{F H:Hp}{p:Addr}{o:HO}(h:Same F H)(hp:H p=none):Same (upd F p o) (upd H p o):=fun b u q=>by
 by_cases hb:b=p
 ·subst hb;rw[zr] at q ⊢;exact q
 ·rw[zm hb] at q ⊢;exact h b u q
theorem Ext.same{F H F' H':Hp}(ff:Same F F')(hh:Same H H')(fh:Same F' H')(nw:∀a o,F' a=some o→F a=some o∨H a=none)(no:∀d a,H' d=some (.own a)→H d=some (.own a)):Ext F H F' H':=⟨ff,.of hh,fh,nw,fun t=>t.step nw (fun a o e _=>hh a o e) no⟩
omit [Tabs] in
theorem v7{H:Hp}{p:Addr}{o:HO}(ho:∀a,o≠.own a):∀d a,upd H p o d=some (.own a)→H d=some (.own a):=fun d a e=>by
 by_cases h:d=p
 ·subst h;rw[zr] at e;cases e;exact absurd rfl (ho a)
 ·rw[zm h] at e;exact e
theorem Ext.new{F H:Hp}{p:Addr}{o:HO}(h:Same F H)(hp:H p=none)(ho:∀a,o≠.own a:=by intro _ h;cases h):Ext F H (upd F p o) (upd H p o):=
 .same (zI (zv h hp)) (zI hp) (Xy h hp) (fun a u e=>by
  by_cases hb:a=p
  ·subst hb;exact .inr hp
  ·rw[zm hb] at e;exact .inl e) (v7 ho)
theorem Ext.open{F H:Hp}{p:Addr}{o:HO}(h:Same F H)(hp:H p=none)(ho:∀a,o≠.own a:=by intro _ h;cases h):Ext F H F (upd H p o):=
 .same (Same.refl F) (zI hp) (h.trans (zI hp)) (fun a u e=>.inl e) (v7 ho)
inductive Sl where
 | val (d:D)
 | own (ds:List D)
 | obj (n:Nat) (c:Str) (fs:List (Str×D))
 | obr (c:Str) (fs:List (Str×D))
noncomputable abbrev DS:=List (Option Sl)
noncomputable def OwnF(K:Frag)(F H:Hp)(d:D)(v:V):Prop:=∃ds l ws,d=.lst ds∧v=.ref l∧H l=some (.lst ws)∧F l=none∧Reps K F ds ws
noncomputable def Qt(K:Frag)(F H:Hp)(c f:Str)(d:D)(v:V):Prop:=if Tabs.own c f=true then OwnF K F H d v else Rep K F d v
noncomputable def Flds(K:Frag)(F H:Hp)(c:Str):List (Str×D)→List (Str×V)→Prop
 |[],[]=>True
 | (f,d)::r,(g,v)::s=>f=g∧Qt K F H c f d v∧Flds K F H c r s
 |_,_=>False
noncomputable def ux(c:Str):List (Str×V)→List Addr
 |[]=>[]
 | (f,v)::r=>if Tabs.own c f=true then (match v with
  |.ref l=>l::ux c r
  |_=>ux c r) else ux c r
noncomputable def Lof(H:Hp)(c:Str)(a:Addr):List Addr:=match H a with
 | some (.ins _ _ vs)=>ux c vs
 |_=>[]
theorem Lof.ins{H:Hp}{c:Str}{a C dx:Addr}{vs:List (Str×V)}(h:H a=some (.ins C dx vs)):Lof H c a=ux c vs:=by unfold Lof;rw[h]
theorem Flds.own{K:Frag}{F H:Hp}{c:Str}{l:Addr}:∀{fs:List (Str×D)} {vs:List (Str×V)},Flds K F H c fs vs→l∈ux c vs→F l=none∧∃ws,H l=some (.lst ws)
 |[],[],_,h=>by cases h
 | (f,d)::r,(g,v)::s,q,h=>by
  obtain⟨rfl,q2,q3⟩:=q
  unfold ux at h
  unfold Qt at q2
  by_cases z:Tabs.own c f=true
  ·rw[if_pos z] at h q2
   obtain⟨ds,l',ws,e1,rfl,e3,e4,e5⟩:=q2
   rcases mem_cons.mp h with rfl|h
   ·exact⟨e4,ws,e3⟩
   ·exact Flds.own q3 h
  ·rw[if_neg z] at h
   exact Flds.own q3 h
 |[],_::_,q,_=>q.elim
 |_::_,[],q,_=>q.elim
theorem Flds.keep{K:Frag}{F H F' H':Hp}{c:Str}(hf:Same F F'):∀{fs:List (Str×D)} {vs:List (Str×V)},Flds K F H c fs vs→(∀l ws,l∈ux c vs→H l=some (.lst ws)→F l=none→H' l=some (.lst ws)∧F' l=none)→Flds K F' H' c fs vs
 |[],[],_,_=>trivial
 | (f,d)::r,(g,v)::s,q,k=>by
  obtain⟨rfl,q2,q3⟩:=q
  refine⟨rfl,?_,Flds.keep hf q3 fun l ws hl=>k l ws ?_⟩
  ·unfold Qt at q2 ⊢
   by_cases z:Tabs.own c f=true
   ·rw[if_pos z] at q2 ⊢
    obtain⟨ds,l,ws,e1,rfl,e3,e4,e5⟩:=q2
    obtain⟨k1,k2⟩:=k l ws (by unfold ux;rw[if_pos z];exact mem_cons_self) e3 e4
    exact⟨ds,l,ws,e1,rfl,k1,k2,e5.mono hf⟩
   ·rw[if_neg z] at q2 ⊢;exact q2.mono hf
  ·unfold ux
   by_cases z:Tabs.own c f=true
   ·rw[if_pos z]
    cases v with
    |ref l'=>exact mem_cons_of_mem _ hl
    |_=>exact hl
   ·rw[if_neg z];exact hl
 |[],_::_,q,_=>q.elim
 |_::_,[],q,_=>q.elim
noncomputable def ObAt(K:Frag)(F H:Hp)(c:Str)(fs:List (Str×D))(a:Addr):Prop:=∃C dx vs,H a=some (.ins C dx vs)∧F a=none∧nsIn K mainGlobals c=some (some (.ref C))∧Flds K F H c fs vs∧H dx=some (.own a)∧(ux c vs).Nodup
noncomputable def ObS(s:Option (Option Sl))(c:Str):Prop:=(∃n fs,s=some (some (.obj n c fs)))∨∃fs,s=some (some (.obr c fs))
structure ObsOk(K:Frag)(F:Hp)(τ:DS)(σ:St)(H:Hp):Prop where
 at_:∀(i n:Nat) (c:Str) (fs:List (Str×D)),τ[i]?=some (some (.obj n c fs))→∃a,σ[i]?=some (some (.ref a))∧ObAt K F H c fs a
 dis:∀(i j n:Nat) (c c':Str) (fs:List (Str×D)) (a:Addr),i≠j→τ[i]?=some (some (.obj n c fs))→ObS τ[j]? c'→σ[i]?=some (some (.ref a))→σ[j]?=some (some (.ref a))→False
 rd:∀(i:Nat) (c:Str) (fs:List (Str×D)),τ[i]?=some (some (.obr c fs))→∃a C dx vs,σ[i]?=some (some (.ref a))∧H a=some (.ins C dx vs)∧nsIn K mainGlobals c=some (some (.ref C))∧Flds K F H c fs vs
 ll:∀(i j n:Nat) (c c':Str) (fs:List (Str×D)) (a a' l:Addr),i≠j→τ[i]?=some (some (.obj n c fs))→ObS τ[j]? c'→σ[i]?=some (some (.ref a))→σ[j]?=some (some (.ref a'))→l∈Lof H c a→l∈Lof H c' a'→False
 lo:∀(i j:Nat) (c:Str) (ds:List D) (a l:Addr),ObS τ[i]? c→τ[j]?=some (some (.own ds))→σ[i]?=some (some (.ref a))→σ[j]?=some (some (.ref l))→l∈Lof H c a→False
noncomputable def YH:Option Sl→Bool
 | some (.obj _ _ _)=>true
 | some (.obr _ _)=>true
 |_=>false
noncomputable def noObj(τ:DS):Prop:=∀(i:Nat) s,τ[i]?=some s→YH s=false
omit [Tabs] in
theorem noObj.obs{τ:DS}(n:noObj τ){i:Nat}{c:Str}(h:ObS τ[i]? c):False:=by
 rcases h with ⟨m,fs,h⟩|⟨fs,h⟩
 ·have:=n i _ h;cases this
 ·have:=n i _ h;cases this
theorem ObsOk.none{K:Frag}{F H:Hp}{τ:DS}{σ:St}(n:noObj τ):ObsOk K F τ σ H:=
 ⟨fun i m c fs h=>(by have:=n i _ h;cases this),fun i j m c c' fs a _ h=>(by have:=n i _ h;cases this),fun i c fs h=>(by have:=n i _ h;cases this),fun i j m c c' fs a a' l _ h=>(by have:=n i _ h;cases this),fun i j c ds a l h=>(n.obs h).elim⟩
theorem ObsOk.get{K:Frag}{F H:Hp}{τ:DS}{σ:St}{i:Nat}{c:Str}(o:ObsOk K F τ σ H)(h:ObS τ[i]? c):∃a C dx vs fs,σ[i]?=some (some (.ref a))∧H a=some (.ins C dx vs)∧Flds K F H c fs vs:=by
 rcases h with ⟨m,fs,h⟩|⟨fs,h⟩
 ·obtain⟨a,h1,C,dx,vs,h2,_,_,h5,_⟩:=o.at_ i m c fs h
  exact⟨a,C,dx,vs,fs,h1,h2,h5⟩
 ·obtain⟨a,C,dx,vs,h1,h2,_,h5⟩:=o.rd i c fs h
  exact⟨a,C,dx,vs,fs,h1,h2,h5⟩
theorem ObsOk.keep{K:Frag}{F H F' H':Hp}{τ:DS}{σ:St}(o:ObsOk K F τ σ H)(hf:Same F F')(hi:∀a C dx vs,H a=some (.ins C dx vs)→H' a=some (.ins C dx vs))(hn:∀a C dx vs,H a=some (.ins C dx vs)→F a=Option.none→F' a=Option.none)(hd:∀d a,H d=some (.own a)→H' d=some (.own a))
  (hl:∀(i:Nat) (c:Str) (a l:Addr) (ws:List V),ObS τ[i]? c→σ[i]?=some (some (.ref a))→l∈Lof H c a→H l=some (.lst ws)→F l=Option.none→H' l=some (.lst ws)∧F' l=Option.none):ObsOk K F' τ σ H':=by
 have lof:∀{i:Nat} {c:Str} {a:Addr},ObS τ[i]? c→σ[i]?=some (some (.ref a))→Lof H' c a=Lof H c a:=fun {i c a} h e=>by
  obtain⟨a',C,dx,vs,fs,h1,h2,_⟩:=o.get h
  rw[e] at h1;cases h1
  rw[Lof.ins h2,Lof.ins (hi _ _ _ _ h2)]
 refine⟨fun i m c fs h=>?_,o.dis,fun i c fs h=>?_,fun i j m c c' fs a a' l hij h1 h2 h3 h4 h5 h6=>?_,fun i j c ds a l h1 h2 h3 h4 h5=>?_⟩
 ·obtain⟨a,h1,C,dx,vs,h2,h3,h4,h5,h6,h7⟩:=o.at_ i m c fs h
  exact⟨a,h1,C,dx,vs,hi _ _ _ _ h2,hn _ _ _ _ h2 h3,h4,h5.keep hf fun l ws q=>hl i c a l ws (.inl ⟨m,fs,h⟩) h1 (by rw[Lof.ins h2];exact q),hd _ _ h6,h7⟩
 ·obtain⟨a,C,dx,vs,h1,h2,h4,h5⟩:=o.rd i c fs h
  exact⟨a,C,dx,vs,h1,hi _ _ _ _ h2,h4,h5.keep hf fun l ws q=>hl i c a l ws (.inr ⟨fs,h⟩) h1 (by rw[Lof.ins h2];exact q)⟩
 ·rw[lof (.inl ⟨m,fs,h1⟩) h3] at h5
  rw[lof h2 h4] at h6
  exact o.ll i j m c c' fs a a' l hij h1 h2 h3 h4 h5 h6
 ·rw[lof h1 h3] at h5
  exact o.lo i j c ds a l h1 h2 h3 h4 h5
theorem ObsOk.ext{K:Frag}{F H F' H':Hp}{τ:DS}{σ:St}(o:ObsOk K F τ σ H)(x:Ext F H F' H'):ObsOk K F' τ σ H':=by
 have nF:∀{a:Addr} {u:HO},H a=some u→F a=Option.none→F' a=Option.none:=fun {a u} h h3=>by
  cases q:F' a with
  |none=>rfl
  |some w=>
   rcases x.nw a w q with z|z
   ·rw[h3] at z;cases z
   ·rw[h] at z;cases z
 exact o.keep x.ff (fun a C dx vs h=>x.hh _ _ h) (fun a C dx vs h=>nF h) (fun d a h=>x.hh _ _ h) fun i c a l ws _ _ _ h h3=>⟨x.hh _ _ h,nF h h3⟩
theorem ObsOk.updL{K:Frag}{F H:Hp}{τ:DS}{σ:St}{p:Addr}{u:HO}(o:ObsOk K F τ σ H)(hl:H p=.none∨∃vs,H p=some (.lst vs))(hp:∀(i:Nat) (c:Str) (a:Addr),ObS τ[i]? c→σ[i]?=some (some (.ref a))→p∉Lof H c a):ObsOk K F τ σ (upd H p u):=by
 have ne:∀{a:Addr} {w:HO},H a=some w→(∀vs,w≠.lst vs)→a≠p:=fun {a w} h n z=>by
  subst z
  rcases hl with z|⟨ws,z⟩
  ·rw[z] at h;cases h
  ·rw[z] at h;cases h;exact n _ rfl
 refine o.keep (Same.refl F) (fun a C dx vs h=>?_) (fun a C dx vs _ h=>h) (fun d a h=>?_) fun i c a l ws h1 h2 h3 h4 h5=>⟨?_,h5⟩
 ·rw[zm (ne h fun _ z=>nomatch z)];exact h
 ·rw[zm (ne h fun _ z=>nomatch z)];exact h
 ·have:l≠p:=fun z=>by subst z;exact hp i c a h1 h2 h3
  rw[zm this];exact h4
omit [Tabs] in
theorem zZ{τ:DS}{i j:Nat}{s u:Option Sl}(hs:YH s=false)(hu:YH u=true)(h:(τ.set i s)[j]?=some u):i≠j∧τ[j]?=some u:=by
 by_cases hij:i=j
 ·subst hij
  rw[getElem?_set] at h
  simp only[if_true] at h
  split at h
  ·cases h;rw[hs] at hu;cases hu
  ·cases h
 ·rw[getElem?_set_ne hij] at h;exact⟨hij,h⟩
omit [Tabs] in
theorem wR{τ:DS}{i j:Nat}{s:Option Sl}{c:Str}(hs:YH s=false)(h:ObS (τ.set i s)[j]? c):i≠j∧ObS τ[j]? c:=by
 rcases h with ⟨n,fs,h⟩|⟨fs,h⟩
 ·obtain⟨a,b⟩:=zZ hs rfl h;exact⟨a,.inl ⟨n,fs,b⟩⟩
 ·obtain⟨a,b⟩:=zZ hs rfl h;exact⟨a,.inr ⟨fs,b⟩⟩
theorem ObsOk.put{K:Frag}{F H:Hp}{τ:DS}{σ:St}{i:Nat}{s:Option Sl}{v:Option V}(o:ObsOk K F τ σ H)(hs:YH s=false)(hw:∀ds l,s=some (.own ds)→v=some (.ref l)→∀(j:Nat) (c:Str) (a:Addr),ObS τ[j]? c→σ[j]?=some (some (.ref a))→l∉Lof H c a):ObsOk K F (τ.set i s) (σ.set i v) H:=
 ⟨fun j m c fs h=>by
  obtain⟨n,h⟩:=zZ hs rfl h
  rw[getElem?_set_ne n];exact o.at_ j m c fs h,
  fun j k m c c' fs a hjk h1 h2 h3 h4=>by
   obtain⟨n1,h1⟩:=zZ hs rfl h1
   obtain⟨n2,h2⟩:=wR hs h2
   rw[getElem?_set_ne n1] at h3
   rw[getElem?_set_ne n2] at h4
   exact o.dis j k m c c' fs a hjk h1 h2 h3 h4,
  fun j c fs h=>by
   obtain⟨n,h⟩:=zZ hs rfl h
   rw[getElem?_set_ne n];exact o.rd j c fs h,
  fun j k m c c' fs a a' l hjk h1 h2 h3 h4=>by
   obtain⟨n1,h1⟩:=zZ hs rfl h1
   obtain⟨n2,h2⟩:=wR hs h2
   rw[getElem?_set_ne n1] at h3
   rw[getElem?_set_ne n2] at h4
   exact o.ll j k m c c' fs a a' l hjk h1 h2 h3 h4,
  fun j k c ds a l h1 h2 h3 h4 h5=>by
   obtain⟨n1,g1⟩:=wR hs h1
   rw[getElem?_set_ne n1] at h3
   by_cases e:i=k
   ·subst e
    rw[getElem?_set] at h2 h4
    simp only[if_true] at h2 h4
    split at h2
    ·split at h4
     ·exact hw ds l (by simpa using h2) (by simpa using h4) j c a g1 h3 h5
     ·cases h4
    ·cases h2
   ·rw[getElem?_set_ne e] at h2 h4
    exact o.lo j k c ds a l g1 h2 h3 h4 h5⟩
theorem ObsOk.putS{K:Frag}{F H:Hp}{τ:DS}{σ:St}{i:Nat}{ds es:List D}(o:ObsOk K F τ σ H)(hi:τ[i]?=some (some (.own ds))):ObsOk K F (τ.set i (some (.own es))) σ H:=
 ⟨fun j m c fs h=>o.at_ j m c fs (zZ (s:=some (.own es)) rfl rfl h).2,fun j k m c c' fs a hjk h1 h2=>o.dis j k m c c' fs a hjk (zZ (s:=some (.own es)) rfl rfl h1).2 (wR (s:=some (.own es)) rfl h2).2,fun j c fs h=>o.rd j c fs (zZ (s:=some (.own es)) rfl rfl h).2,
  fun j k m c c' fs a a' l hjk h1 h2=>o.ll j k m c c' fs a a' l hjk (zZ (s:=some (.own es)) rfl rfl h1).2 (wR (s:=some (.own es)) rfl h2).2,fun j k c ds' a l h1 h2 h3 h4 h5=>by
   have h1:=(wR (s:=some (.own es)) rfl h1).2
   by_cases e:i=k
   ·subst e;exact o.lo j i c ds a l h1 hi h3 h4 h5
   ·rw[getElem?_set_ne e] at h2;exact o.lo j k c ds' a l h1 h2 h3 h4 h5⟩
theorem ObsOk.fresh{K:Frag}{F H:Hp}{τ:DS}{σ:St}{p:Addr}(o:ObsOk K F τ σ H)(hp:H p=.none):∀(i:Nat) (c:Str) (a:Addr),ObS τ[i]? c→σ[i]?=some (some (.ref a))→p∉Lof H c a:=fun i c a h e hl=>by
 obtain⟨a',C,dx,vs,fs,h1,h2,h3⟩:=o.get h
 rw[e] at h1;cases h1
 rw[Lof.ins h2] at hl
 obtain⟨_,ws,q⟩:=h3.own hl
 rw[hp] at q;cases q
theorem ObsOk.lof{K:Frag}{F H:Hp}{τ:DS}{σ:St}{i:Nat}{c:Str}{a p:Addr}{u:HO}(o:ObsOk K F τ σ H)(h1:ObS τ[i]? c)(h2:σ[i]?=some (some (.ref a)))(hl:H p=.none∨∃vs,H p=some (.lst vs)):Lof (upd H p u) c a=Lof H c a:=by
 obtain⟨a',C,dx,vs,fs,h3,h4,_⟩:=o.get h1
 rw[h2] at h3;cases h3
 have:a≠p:=fun z=>by
  subst z
  rcases hl with z|⟨ws,z⟩
  ·rw[z] at h4;cases h4
  ·rw[z] at h4;cases h4
 rw[Lof.ins h4,Lof.ins (show upd H p u a=some (.ins C dx vs) by rw[zm this];exact h4)]
structure RV(K:Frag)(F:Hp)(τ:DS)(σ:St)(H:Hp):Prop where
 fh:Same F H
 len:τ.length=σ.length
 val:∀(i:Nat) (d:D),τ[i]?=some (some (.val d))→∃v,σ[i]?=some (some v)∧Rep K F d v
 own:∀(i:Nat) (ds:List D),τ[i]?=some (some (.own ds))→∃a vs,σ[i]?=some (some (.ref a))∧H a=some (.lst vs)∧F a=none∧Reps K F ds vs
 dis:∀(i j:Nat) (ds es:List D) (a:Addr),i≠j→τ[i]?=some (some (.own ds))→τ[j]?=some (some (.own es))→σ[i]?=some (some (.ref a))→σ[j]?=some (some (.ref a))→False
 tt:TbT F H
 ob:ObsOk K F τ σ H
theorem RV.ext{K:Frag}{F H F' H':Hp}{τ:DS}{σ:St}(R:RV K F τ σ H)(x:Ext F H F' H'):RV K F' τ σ H':=
 ⟨x.fh,R.len,fun i d e=>by
  obtain⟨v,h1,h2⟩:=R.val i d e
  exact⟨v,h1,h2.mono x.ff⟩,
  fun i ds e=>by
   obtain⟨a,vs,h1,h2,h3,h4⟩:=R.own i ds e
   refine⟨a,vs,h1,x.hh _ _ h2,?_,h4.mono x.ff⟩
   cases q:F' a with
   |none=>rfl
   |some o=>
    rcases x.nw a o q with z|z
    ·rw[h3] at z;cases z
    ·rw[h2] at z;exact absurd z (by simp),
  R.dis,x.tt R.tt,R.ob.ext x⟩
structure RS(K:Frag)(B Z F:Hp)(τ:DS)(σ:St)(H:Hp):Prop where
 rv:RV K F τ σ H
 bh:Hh B H
 zf:Same Z F
 nb:∀a o,F a=some o→Z a=some o∨B a=none
 ob:∀(i:Nat) (ds:List D) (a:Addr),τ[i]?=some (some (.own ds))→σ[i]?=some (some (.ref a))→B a=none
 oo:∀(i n:Nat) (c:Str) (fs:List (Str×D)) (a:Addr),τ[i]?=some (some (.obj n c fs))→σ[i]?=some (some (.ref a))→B a=none∧∀l∈Lof H c a,B l=none
 sf:∀(a0 dx:Addr),B dx=some (.own a0)→B a0=none→∀(i n:Nat) (c:Str) (fs:List (Str×D)),τ[i]?=some (some (.obj (n+1) c fs))→σ[i]?=some (some (.ref a0))
 ro:∀(i:Nat) (c:Str) (fs:List (Str×D)) (a:Addr),τ[i]?=some (some (.obr c fs))→σ[i]?=some (some (.ref a))→∃C dx vs,B a=some (.ins C dx vs)∧∀l∈ux c vs,∃ws,B l=some (.lst ws)
theorem RS.ext{K:Frag}{B Z F H F' H':Hp}{τ:DS}{σ:St}(R:RS K B Z F τ σ H)(x:Ext F H F' H'):RS K B Z F' τ σ H':=
 ⟨R.rv.ext x,R.bh.trans x.hh,R.zf.trans x.ff,fun a o e=>by
  rcases x.nw a o e with q|q
  ·exact R.nb a o q
  ·exact .inr (xN R.bh q),R.ob,fun i n c fs a h1 h2=>by
  obtain⟨q1,q2⟩:=R.oo i n c fs a h1 h2
  refine⟨q1,fun l hl=>q2 l ?_⟩
  obtain⟨a',h3,C,dx,vs,h4,_⟩:=R.rv.ob.at_ i n c fs h1
  rw[h2] at h3;cases h3
  rw[Lof.ins h4]
  rw[Lof.ins (x.hh _ _ h4:H' a=some (.ins C dx vs))] at hl
  exact hl,R.sf,R.ro⟩
theorem RS.out{K:Frag}{B Z F H:Hp}{τ:DS}{σ:St}(R:RS K B Z F τ σ H):Ext Z B F H:=⟨R.zf,R.bh,R.rv.fh,R.nb,fun _=>R.rv.tt⟩
noncomputable def Xob(X:Cx)(c:Str):Prop:=∀e s',X.xe e s'
noncomputable def Ok(X:Cx){α:Type}(r:Rs α)(P:α→Prop):Prop:=match r with
 |.ok a=>P a
 |.ex c=>Xob X c
 |.no=>False
theorem Ok.bind{X:Cx}{α β:Type}{r:Rs α}{k:α→Rs β}{P:β→Prop}(h:Ok X (r.bind k) P):Ok X r fun a=>Ok X (k a) P:=by
 cases r <;> exact h
theorem Ok.imp{X:Cx}{α:Type}{r:Rs α}{P Q:α→Prop}(h:Ok X r P)(f:∀a,P a→Q a):Ok X r Q:=by
 cases r with
 |ok a=>exact f a h
 |ex c=>exact h
 |no=>exact h
noncomputable abbrev FE:=DS→Rs D
noncomputable abbrev FA:=DS→Rs (List D)
noncomputable abbrev FT:=DS→Rs Bool
noncomputable def Ev(K:Frag)(F H:Hp)(Q:VK)(d:D):Prop:=∀v F' H',Ext F H F' H'→Rep K F' d v→Q v H'
noncomputable def Evs(K:Frag)(F H:Hp)(Q:List V→Hp→Prop)(ds:List D):Prop:=∀vs F' H',Ext F H F' H'→Reps K F' ds vs→Q vs H'
noncomputable def Evb(F H:Hp)(Q:Bool→Hp→Prop)(b:Bool):Prop:=∀F' H',Ext F H F' H'→Q b H'
theorem Ev.ext{K:Frag}{F H F1 H1:Hp}{Q:VK}{d:D}(h:Ev K F H Q d)(x:Ext F H F1 H1):Ev K F1 H1 Q d:=fun v F' H' y r=>h v F' H' (x.trans y) r
theorem Evb.ext{F H F1 H1:Hp}{Q:Bool→Hp→Prop}{d:Bool}(h:Evb F H Q d)(x:Ext F H F1 H1):Evb F1 H1 Q d:=fun F' H' y=>h F' H' (x.trans y)
noncomputable def tE(X:Cx)(f:FE):TE:=fun σ H Q=>∃F τ,RV X.K F τ σ H∧Ok X (f τ) (Ev X.K F H Q)
noncomputable def tAs(X:Cx)(f:FA):TA:=fun σ H Q=>∃F τ,RV X.K F τ σ H∧Ok X (f τ) (Evs X.K F H Q)
noncomputable def tTs(X:Cx)(f:FT):TT:=fun σ H Q=>∃F τ,RV X.K F τ σ H∧Ok X (f τ) (Evb F H Q)
noncomputable def PDE(X:Cx)(e:Expr)(f:FE):Prop:=PE X e (tE X f)
noncomputable def PDA(X:Cx)(e:List Expr)(f:FA):Prop:=PA X e (tAs X f)
noncomputable def PDT(X:Cx)(e:Expr)(f:FT):Prop:=PT X e (tTs X f)
noncomputable def PDW(X:Cx)(e:Expr)(f:FT):Prop:=PW X e (tTs X f)
theorem _root_.L2.PE.imp{X:Cx}{e:Expr}{t t':TE}(h:PE X e t)(f:∀σ H Q,t' σ H Q→t σ H Q):PE X e t':=fun pins s σ H Q I q=>h pins s σ H Q I (f _ _ _ q)
theorem _root_.L2.PT.imp{X:Cx}{e:Expr}{t t':TT}(h:PT X e t)(f:∀σ H Q,t' σ H Q→t σ H Q):PT X e t':=fun pins s σ H Q I q=>h pins s σ H Q I (f _ _ _ q)
theorem _root_.L2.PW.imp{X:Cx}{e:Expr}{t t':TT}(h:PW X e t)(f:∀σ H Q,t' σ H Q→t σ H Q):PW X e t':=fun w pins s σ H Q I q=>h w pins s σ H Q I (f _ _ _ q)
theorem _root_.L2.PA.imp{X:Cx}{e:List Expr}{t t':TA}(h:PA X e t)(f:∀σ H Q,t' σ H Q→t σ H Q):PA X e t':=fun p pins s σ H Q I q=>h p pins s σ H Q I (f _ _ _ q)
theorem _root_.L2.PS.imp{X:Cx}{e:Stmt}{t t':TS}(h:PS X e t)(f:∀E σ H,t' E σ H→t E σ H):PS X e t':=fun pins s σ H Q I q=>h pins s σ H Q I (f _ _ _ q)
theorem _root_.L2.PSs.imp{X:Cx}{e:List Stmt}{t t':TS}(h:PSs X e t)(f:∀E σ H,t' E σ H→t E σ H):PSs X e t':=fun pins s σ H Q I q=>h pins s σ H Q I (f _ _ _ q)
theorem tE.of{X:Cx}{f:FE}{F H:Hp}{τ:DS}{σ:St}{Q:VK}{G:D→Prop}(R:RV X.K F τ σ H)(h:Ok X (f τ) G)
  (k:∀d v F1 H1,G d→Ext F H F1 H1→RV X.K F1 τ σ H1→Rep X.K F1 d v→Q v H1):tE X f σ H Q:=
 ⟨F,τ,R,h.imp fun d g v F1 H1 x r=>k d v F1 H1 g x (R.ext x) r⟩
theorem tAs.of{X:Cx}{f:FA}{F H:Hp}{τ:DS}{σ:St}{Q:List V→Hp→Prop}{G:List D→Prop}(R:RV X.K F τ σ H)(h:Ok X (f τ) G)
  (k:∀d v F1 H1,G d→Ext F H F1 H1→RV X.K F1 τ σ H1→Reps X.K F1 d v→Q v H1):tAs X f σ H Q:=
 ⟨F,τ,R,h.imp fun d g v F1 H1 x r=>k d v F1 H1 g x (R.ext x) r⟩
theorem tTs.of{X:Cx}{f:FT}{F H:Hp}{τ:DS}{σ:St}{Q:Bool→Hp→Prop}{G:Bool→Prop}(R:RV X.K F τ σ H)(h:Ok X (f τ) G)
  (k:∀b F1 H1,G b→Ext F H F1 H1→RV X.K F1 τ σ H1→Q b H1):tTs X f σ H Q:=
 ⟨F,τ,R,h.imp fun d g F1 H1 x=>k d F1 H1 g x (R.ext x)⟩
noncomputable def zd(i:Nat):FE:=fun τ=>match τ[i]? with
 | some (some (.val d))=>.ok d
 |_=>.no
section
variable{X:Cx}{pos:Pos}
theorem zb{i:Nat}{x:Str}(h:PE X (.Name x pos) (ZR i)):PDE X (.Name x pos) (zd i):=h.imp fun σ H Q z_=>by
 obtain⟨F,τ,R,q⟩:=z_
 unfold zd at q
 cases e:τ[i]? with
 |none=>rw[e] at q;exact q.elim
 |some o=>
  cases o with
  |none=>rw[e] at q;exact q.elim
  |some sl=>
   cases sl with
   |own ds=>rw[e] at q;exact q.elim
   |obj n c fs=>rw[e] at q;exact q.elim
   |obr c fs=>rw[e] at q;exact q.elim
   |val d=>
    rw[e] at q
    obtain⟨v,h1,h2⟩:=R.val i d e
    exact⟨v,h1,q v F H (Ext.refl R.fh) h2⟩
noncomputable def eC(d:D):FE:=fun _=>.ok d
theorem jU{e:Expr}{v:V}{d:D}(h:PE X e (tC v))(r:∀F,Rep X.K F d v):PDE X e (eC d):=h.imp fun σ H Q z_=>by obtain⟨F,τ,R,q⟩:=z_;exact q v F H (Ext.refl R.fh) (r F)
theorem zg{i j}:PDE X (.Constant (.int i) j pos) (eC (.int i)):=jU JL fun _=>by simp only[Rep]
theorem x0{i j}:PDE X (.Constant (.bool i) j pos) (eC (.bl i)):=jU pe_bl fun _=>by simp only[Rep]
theorem wS{j}:PDE X (.Constant .none j pos) (eC .non):=jU JK fun _=>by simp only[Rep]
theorem zt{i j}:PDE X (.Constant (.str i) j pos) (eC (.str i)):=jU JI fun _=>by simp only[Rep]
end
noncomputable def OpD(X:Cx)(g:Value→Value→Sem Value)(op:D→D→Rs D):Prop:=∃r:R2,OpR X g r ∧
 ∀F H x y dx dy Q,Same F H→Rep X.K F dx x→Rep X.K F dy y→Ok X (op dx dy) (Ev X.K F H Q)→r x y H Q
noncomputable def eOp(op:D→D→Rs D)(fa fb:FE):FE:=fun τ=>(fa τ).bind fun x=>(fb τ).bind fun y=>op x y
section
variable{X:Cx}{pos:Pos}{a b c:Expr}{fa fb fc:FE}
theorem Xd{r:R2}{op:D→D→Rs D}(hl:∀F H x y dx dy Q,Same F H→Rep X.K F dx x→Rep X.K F dy y→Ok X (op dx dy) (Ev X.K F H Q)→r x y H Q)
  (σ:St) (H:Hp) (Q:VK) (h:tE X (eOp op fa fb) σ H Q):tOp r (tE X fa) (tE X fb) σ H Q:=by
 obtain⟨F,τ,R,h⟩:=h
 refine tE.of R h.bind fun x u F1 H1 g x1 R1 r1=>?_
 refine tE.of R1 g.bind fun y v F2 H2 g2 x2 R2 r2=>?_
 exact hl F2 H2 u v x y Q R2.fh (r1.mono x2.ff) r2 (g2.imp fun d e=>e.ext (x1.trans x2))
theorem zq{o:Operator}{op:D→D→Rs D}(ho:OpD X (binaryOp o) op)(ha:PDE X a fa)(hb:PDE X b fb):PDE X (.BinOp a o b pos) (eOp op fa fb):=by
 obtain⟨r,h1,h2⟩:=ho
 exact(pe_op h1 ha hb).imp (Xd h2)
theorem vH{o:CmpOp}{op:D→D→Rs D}(ho:OpD X (compareOp o) op)(ha:PDE X a fa)(hb:PDE X b fb)(hm:behindInMarks o b=false):PDE X (.Compare a [o] [b] pos) (eOp op fa fb):=by
 obtain⟨r,h1,h2⟩:=ho
 exact(Ue h1 ha hb hm).imp (Xd h2)
noncomputable def tB(f:FE):FT:=fun τ=>(f τ).bind fun d=>match d with
 |.bl b=>.ok b
 |_=>.no
theorem YV{t:FE}{u:TE}(hi:∀σ H Q,tE X t σ H Q→u σ H Q)(σ:St)(H:Hp)(Q:Bool→Hp→Prop)(h:tTs X (tB t) σ H Q):Wc u σ H Q:=by
 obtain⟨F,τ,R,h⟩:=h
 refine hi σ H _ (tE.of R h.bind fun d v F1 H1 g x R1 r=>?_)
 cases d with
 |bl k=>simp only[Rep] at r;exact⟨k,r,g F1 H1 x⟩
 |_=>exact g.elim
theorem zH{o:CmpOp}{op:D→D→Rs D}(ho:OpD X (compareOp o) op)(ha:PDE X a fa)(hb:PDE X b fb)(hm:behindInMarks o b=false):PDT X (.Compare a [o] [b] pos) (tB (eOp op fa fb)):=by
 obtain⟨r,h1,h2⟩:=ho
 exact(V3 h1 ha hb hm).imp (YV (Xd h2))
noncomputable def uf(op op':D→D→Rs D)(fa fb fc:FE):FE:=fun τ=>(fa τ).bind fun x=>(fb τ).bind fun y=>(op x y).bind fun z=>match z with
 |.bl k=>if k=true then (fc τ).bind fun w=>op' y w else .ok (.bl false)
 |_=>.no
theorem Vt{r r':R2}{op op':D→D→Rs D}(hl:∀F H x y dx dy Q,Same F H→Rep X.K F dx x→Rep X.K F dy y→Ok X (op dx dy) (Ev X.K F H Q)→r x y H Q)
  (hl':∀F H x y dx dy Q,Same F H→Rep X.K F dx x→Rep X.K F dy y→Ok X (op' dx dy) (Ev X.K F H Q)→r' x y H Q)
  (σ:St) (H:Hp) (Q:VK) (h:tE X (uf op op' fa fb fc) σ H Q):Wg r r' (tE X fa) (tE X fb) (tE X fc) σ H Q:=by
 obtain⟨F,τ,R,h⟩:=h
 refine tE.of R h.bind fun x u F1 H1 g x1 R1 r1=>?_
 refine tE.of R1 g.bind fun y v F2 H2 g2 x2 R2 r2=>?_
 refine hl F2 H2 u v x y _ R2.fh (r1.mono x2.ff) r2 (g2.bind.imp fun z gz w F3 H3 x3 r3=>?_)
 cases z with
 |bl k=>
  simp only[Rep] at r3
  refine⟨k,r3,?_⟩
  cases k with
  |false=>rw[if_neg (by simp)];exact gz (.bl false) F3 H3 ((x1.trans x2).trans x3) (by simp only[Rep])
  |true=>
   rw[if_pos rfl]
   have gz:Ok X ((fc τ).bind fun w=>op' y w) (Ev X.K F H Q):=gz
   refine tE.of (R2.ext x3) gz.bind fun w' v' F4 H4 g4 x4 R4 r4=>?_
   exact hl' F4 H4 v v' y w' Q R4.fh (r2.mono (x3.ff.trans x4.ff)) r4 (g4.imp fun d e=>e.ext (((x1.trans x2).trans x3).trans x4))
 |_=>exact gz.elim
theorem XD{o o':CmpOp}{op op':D→D→Rs D}(ho:OpD X (compareOp o) op)(ho':OpD X (compareOp o') op')(ha:PDE X a fa)(hb:PDE X b fb)(hc:PDE X c fc)
  (hm:lastMarks [o,o'] [b,c]=false:=by with_unfolding_all rfl):PDT X (.Compare a [o,o'] [b,c] pos) (tB (uf op op' fa fb fc)):=by
 obtain⟨r,h1,h2⟩:=ho
 obtain⟨r',h1',h2'⟩:=ho'
 exact(Wv h1 h1' ha hb hc hm).imp (YV (Vt h2 h2'))
noncomputable def ZP:D→Rs Bool
 |.non=>.ok false
 |.bl b=>.ok b
 |.int i=>.ok (i != 0)
 |.str x=>if x.length≤sizeLine then .ok ((x.length:Int) != 0) else .no
 |.lst ds=>.ok (!ds.isEmpty)
 |.tup ds=>.ok (!ds.isEmpty)
 |.scr ns=>.ok (!ns.isEmpty)
 |.raw _=>.no
 |.exc _=>.no
 |.dct _ _=>.no
theorem vK{K:Frag}{F:Hp}{ds:List D}{vs:List V}(h:Reps K F ds vs):ds.isEmpty=vs.isEmpty:=by
 have:=h.length
 cases ds <;> cases vs <;> simp_all
theorem Wb{F H:Hp}{d:D}{v:V}{Q:Bool→Hp→Prop}(fh:Same F H)(r:Rep X.K F d v)(h:Ok X (ZP d) (fun b=>Q b H)):∃k,Qq X.K v H k∧Q k H:=by
 cases d with
 |non=>simp only[Rep] at r;subst r;exact⟨_,rfl,h⟩
 |bl b=>simp only[Rep] at r;subst r;exact⟨_,rfl,h⟩
 |int i=>simp only[Rep] at r;subst r;exact⟨_,rfl,h⟩
 |str x=>
  simp only[Rep] at r;subst r
  (delta ZP at h;dsimp only at h)
  by_cases z:x.length≤sizeLine
  ·rw[if_pos z] at h;exact⟨_,⟨z,rfl⟩,h⟩
  ·rw[if_neg z] at h;exact h.elim
 |lst ds=>
  simp only[Rep] at r;obtain⟨a,vs,rfl,e,q⟩:=r
  refine⟨!vs.isEmpty,.inl ⟨vs,SqL.of (fh _ _ e),rfl⟩,?_⟩
  rw[← vK q];exact h
 |tup ds=>
  simp only[Rep] at r;obtain⟨a,vs,rfl,e,q⟩:=r
  refine⟨!vs.isEmpty,.inr (.inl ⟨vs,Same.seqT fh e,rfl⟩),?_⟩
  rw[← vK q];exact h
 |scr ns=>
  simp only[Rep] at r;obtain⟨a,rfl,e⟩:=r
  refine⟨!(ns.map V.int).isEmpty,.inl ⟨_,fh.seq e,rfl⟩,?_⟩
  have e2:(ns.map V.int).isEmpty=ns.isEmpty:=by cases ns <;> rfl
  rw[e2];exact h
 |raw u=>exact h.elim
 |exc c=>exact h.elim
 |dct _ _=>exact h.elim
noncomputable def uP(f:FE):FT:=fun τ=>(f τ).bind ZP
theorem vC(ha:PDE X a fa)(he:∀whole,isTrue a X.env whole=(do let v ← whole;standAt a.pos;holding [v] (truthy v)):=by intro _;rfl):PDT X a (uP fa):=
 (Wu ha he).imp fun σ H Q z_=>by obtain⟨F,τ,R,h⟩:=z_;exact tE.of R h.bind fun d v F1 H1 g x R1 r=>Wb R1.fh r (g.imp fun b e=>e F1 H1 x)
noncomputable def xS(f g:FT):FT:=fun τ=>(f τ).bind fun b=>if b=true then g τ else .ok false
noncomputable def wc(f g:FT):FT:=fun τ=>(f τ).bind fun b=>if b=true then .ok true else g τ
noncomputable def wx(f:FT):FT:=fun τ=>(f τ).bind fun b=>.ok (!b)
variable{ga gb:FT}{xm:List Expr}
theorem wC(ha:PDT X a ga):PDW X (.BoolOp .And [a] pos) ga:=V0 ha
theorem vA(ha:PDT X a ga):PDW X (.BoolOp .Or [a] pos) ga:=Jz ha
theorem vB(ha:PDT X a ga)(hb:PDW X (.BoolOp .And (b::xm) pos) gb):PDW X (.BoolOp .And (a::b::xm) pos) (xS ga gb):=
 PW.imp (JA ha hb) fun σ H Q z_=>by
  obtain⟨F,τ,R,h⟩:=z_
  refine tTs.of R h.bind fun k F1 H1 g x R1=>?_
  cases k with
  |true=>rw[if_pos rfl];rw[if_pos rfl] at g;exact⟨F1,τ,R1,g.imp fun d e=>e.ext x⟩
  |false=>rw[if_neg (by simp)];rw[if_neg (by simp)] at g;exact g F1 H1 x
theorem ve(ha:PDT X a ga)(hb:PDW X (.BoolOp .Or (b::xm) pos) gb):PDW X (.BoolOp .Or (a::b::xm) pos) (wc ga gb):=
 PW.imp (pw_or ha hb) fun σ H Q z_=>by
  obtain⟨F,τ,R,h⟩:=z_
  refine tTs.of R h.bind fun k F1 H1 g x R1=>?_
  cases k with
  |false=>rw[if_neg (by simp)];rw[if_neg (by simp)] at g;exact⟨F1,τ,R1,g.imp fun d e=>e.ext x⟩
  |true=>rw[if_pos rfl];rw[if_pos rfl] at g;exact g F1 H1 x
theorem wY{e:Expr}(h:PDW X e ga):PDT X e ga:=PW.pt h
theorem vD(ha:PDT X a ga):PDT X (.UnaryOp .Not a pos) (wx ga):=
 PT.imp (JB ha) fun σ H Q z_=>by obtain⟨F,τ,R,h⟩:=z_;exact tTs.of R h.bind fun k F1 H1 g x R1=>g F1 H1 x
noncomputable def eIf(g:FT)(fa fb:FE):FE:=fun τ=>(g τ).bind fun b=>if b=true then fa τ else fb τ
theorem JN(hc:PDT X c ga)(ha:PDE X a fa)(hb:PDE X b fb):PDE X (.IfExp c a b pos) (eIf ga fa fb):=
 PE.imp (WB hc ha hb) fun σ H Q z_=>by
  obtain⟨F,τ,R,h⟩:=z_
  refine tTs.of R h.bind fun k F1 H1 g x R1=>?_
  cases k with
  |true=>rw[if_pos rfl];rw[if_pos rfl] at g;exact⟨F1,τ,R1,g.imp fun d e=>e.ext x⟩
  |false=>rw[if_neg (by simp)];rw[if_neg (by simp)] at g;exact⟨F1,τ,R1,g.imp fun d e=>e.ext x⟩
noncomputable def eOr(fa fb:FE):FE:=fun τ=>(fa τ).bind fun x=>(ZP x).bind fun b=>if b=true then .ok x else fb τ
theorem Y9{op}(h:PDE X a fa):PDE X (.BoolOp op [a] pos) fa:=JJ h
theorem Yz(ha:PDE X a fa)(hb:PDE X (.BoolOp .Or (b::xm) pos) fb):PDE X (.BoolOp .Or (a::b::xm) pos) (eOr fa fb):=by
 rintro pins s σ H Q I ⟨F,τ,R,h⟩
 refine BoolOp_or (thn (ha pins s σ H _ I (tE.of R h.bind fun d v F1 H1 g x R1 r=>(⟨d,F1,g,x,R1,r⟩:∃d F1,Ok X ((ZP d).bind fun b=>if b=true then .ok d else fb τ) (Ev X.K F H Q)∧Ext F H F1 H1∧RV X.K F1 τ σ H1∧Rep X.K F1 d v))) fun v s1 z_=>?_)
 obtain⟨x,H1,I1,r1,d,F1,g,x1,R1,r⟩:=z_
 refine thn (tru_ok pins s1 σ H1 x v (fun b H2=>H2=H1∧Ok X (if b=true then .ok d else fb τ) (Ev X.K F H Q)) I1 r1 (Wb (Q:=fun b H2=>H2=H1∧Ok X (if b=true then .ok d else fb τ) (Ev X.K F H Q)) R1.fh r (g.bind.imp fun b e=>⟨rfl,e⟩))) fun k s2 z_=>?_
 obtain⟨H2,I2,e2,q⟩:=z_
 subst e2
 cases k with
 |false=>rw[if_neg (by simp)] at q ⊢;exact hb pins s2 σ _ Q I2 ⟨F1,τ,R1,q.imp fun d e=>e.ext x1⟩
 |true=>rw[if_pos rfl] at q ⊢;exact⟨x,_,I2,r1,q x F1 _ x1 r⟩
end
section
variable{X:Cx}{pos:Pos}{e:Expr}{es:List Expr}{fe:FE}{fs:FA}
noncomputable def zh:FA:=fun _=>.ok []
noncomputable def za(f:FE)(g:FA):FA:=fun τ=>(f τ).bind fun x=>(g τ).bind fun r=>.ok (x::r)
theorem ze:PDA X [] zh:=PA.imp u7 fun σ H Q z_=>by obtain⟨F,τ,R,h⟩:=z_;exact h [] F H (Ext.refl R.fh) Reps.nil
theorem zc(ha:PDE X e fe)(hr:PDA X es fs)(hs:starEach (e::es) X.env=(false,eval e X.env)::starEach es X.env:=by rfl):PDA X (e::es) (za fe fs):=
 PA.imp (wq ha hr hs) fun σ H Q ⟨F,τ,R,h⟩=>tE.of R h.bind fun x v F1 H1 g x1 R1 r1=>tAs.of R1 g.bind fun ys vs F2 H2 g2 x2 R2 r2=>
  g2 (v::vs) F2 H2 (x1.trans x2) (Reps.cons (r1.mono x2.ff) r2)
noncomputable def Yi(f:FA):FE:=fun τ=>(f τ).bind fun ds=>if ds.length≤sizeLine then .ok (.tup ds) else .no
noncomputable def y9(f:FA):FE:=fun τ=>(f τ).bind fun ds=>if ds.length≤sizeLine then .ok (.lst ds) else .no
theorem zW{X:Cx}{α:Type}{c:Prop}[Decidable c]{a:α}{P:α→Prop}(h:Ok X (if c then .ok a else .no) P):c∧P a:=by
 by_cases z:c
 ·rw[if_pos z] at h;exact⟨z,h⟩
 ·rw[if_neg z] at h;exact h.elim
theorem Y8{x1}(h:PDA X es fs):PDE X (.Tuple es x1 pos) (Yi fs):=
 PE.imp (Wy h) fun σ H Q z_=>by
  obtain⟨F,τ,R,hq⟩:=z_
  refine tAs.of R hq.bind fun ds vs F1 H1 g x R1 r=>?_
  obtain⟨z,g⟩:=zW g
  refine⟨by rw[← r.length];exact z,fun p hp=>g (.ref p) _ _ (x.trans (Ext.new R1.fh hp)) ?_⟩
  simp only[Rep]
  exact⟨p,vs,rfl,SqT.of zr,r.mono (zI (zv R1.fh hp))⟩
theorem xg(h:PDA X es fs):PDE X (.List es pos) (y9 fs):=
 PE.imp (WA h) fun σ H Q z_=>by
  obtain⟨F,τ,R,hq⟩:=z_
  refine tAs.of R hq.bind fun ds vs F1 H1 g x R1 r=>?_
  obtain⟨z,g⟩:=zW g
  refine⟨by rw[← r.length];exact z,fun p hp=>g (.ref p) _ _ (x.trans (Ext.new R1.fh hp)) ?_⟩
  simp only[Rep]
  exact⟨p,vs,rfl,zr,r.mono (zI (zv R1.fh hp))⟩
end
inductive Fl where
 | nx (τ:DS) | rt (d:D) | bk (τ:DS) | ct (τ:DS) | ex (c:Str) | no
 | rs (c:Str) (τ:DS)
 | ro (d:D) (τ:DS)
 | rb (i:Nat) (τ:DS)
noncomputable def Nw(X:Cx)(H:Hp)(b:Addr):Prop:=H b=none∧X.s₀.heap.get? b=none∧∀p∈X.pn,p.1≠b
noncomputable def jC(X:Cx)(H:Hp)(h:Heap)(a:Addr)(cls:Value):Prop:=Nw X H a∧∃oe vs,h.get? a=some oe∧oe.cls=cls∧oe.dict=none∧oe.data=.fields vs ∧
 (vs[1]?=some .none∨∃T oT ts fl,vs[1]?=some (.ref T)∧Nw X H T∧T≠a∧h.get? T=some oT∧oT.data=.fields ts∧ts[3]?=some fl)∧vs[2]?=some .none
noncomputable def XA(X:Cx)(c:Str)(σ:St)(H:Hp):Prop:=∀s a cls,nsIn X.K mainGlobals c=some (some cls)→Inv X [] σ H s→jC X H s.heap a cls→X.xe (.ref a) s
noncomputable abbrev FS:=DS→Fl
noncomputable def Post(X:Cx)(B Z F:Hp)(E:Yq):Fl→Prop
 |.nx τ=>∀σ F' H',Same F F'→RS X.K B Z F' τ σ H'→E.nx σ H'
 |.bk τ=>∀σ F' H',Same F F'→RS X.K B Z F' τ σ H'→E.bk σ H'
 |.ct τ=>∀σ F' H',Same F F'→RS X.K B Z F' τ σ H'→E.ct σ H'
 |.rt d=>∀v F' H',Ext Z B F' H'→Rep X.K F' d v→E.rt v H'
 |.ex c=>Xob X c
 |.no=>False
 |.rs c τ=>∀σ F' H',Same F F'→RS X.K B Z F' τ σ H'→XA X c σ H'
 |.ro d τ=>∀v σ F' H',Same F F'→RS X.K B Z F' τ σ H'→Rep X.K F' d v→E.rt v H'
 |.rb i τ=>∀v σ F' H',Same F F'→RS X.K B Z F' τ σ H'→σ[i]?=some (some v)→E.rt v H'
theorem Post.same{X:Cx}{B Z F F1:Hp}{E:Yq}{r:Fl}(h:Post X B Z F E r)(f:Same F F1):Post X B Z F1 E r:=by
 cases r with
 |nx τ=>exact fun σ F' H' g R=>h σ F' H' (f.trans g) R
 |bk τ=>exact fun σ F' H' g R=>h σ F' H' (f.trans g) R
 |ct τ=>exact fun σ F' H' g R=>h σ F' H' (f.trans g) R
 |rt d=>exact h
 |ex c=>exact h
 |no=>exact h
 |rs c τ=>exact fun σ F' H' g R=>h σ F' H' (f.trans g) R
 |ro d τ=>exact fun v σ F' H' g R r=>h v σ F' H' (f.trans g) R r
 |rb i τ=>exact fun v σ F' H' g R r=>h v σ F' H' (f.trans g) R r
noncomputable def tS(X:Cx)(f:FS):TS:=fun E σ H=>∃B Z F τ,RS X.K B Z F τ σ H∧Post X B Z F E (f τ)
noncomputable def PDS(X:Cx)(st:Stmt)(f:FS):Prop:=PS X st (tS X f)
noncomputable def vv(X:Cx)(st:List Stmt)(f:FS):Prop:=PSs X st (tS X f)
noncomputable def Fl.of{α:Type}(r:Rs α)(k:α→Fl):Fl:=match r with
 |.ok a=>k a
 |.ex c=>.ex c
 |.no=>.no
@[simp] theorem Fl.of_ok{α:Type}(a:α)(k:α→Fl):Fl.of (.ok a) k=k a:=rfl
theorem Post.of{X:Cx}{B Z F:Hp}{E:Yq}{α:Type}{r:Rs α}{k:α→Fl}(h:Post X B Z F E (Fl.of r k)):Ok X r fun a=>Post X B Z F E (k a):=by
 cases r <;> exact h
section
variable{X:Cx}{pos:Pos}{e:Expr}{es:List Expr}{fe:FE}{fs:FA}{st:Stmt}{xm:List Stmt}{f g:FS}{c:Expr}{gc:FT}
noncomputable def yg:FS:=fun τ=>.nx τ
noncomputable def zM(f g:FS):FS:=fun τ=>match f τ with
 |.nx τ'=>g τ'
 |r=>r
theorem zV:vv X [] yg:=PSs.imp V5 fun E σ H z_=>by obtain⟨B,Z,F,τ,R,h⟩:=z_;exact h σ F H (Same.refl F) R
theorem zn(h:PDS X st f):vv X [st] f:=V4 h
theorem zk(h1:PDS X st f)(h2:vv X xm g):vv X (st::xm) (zM f g):=
 PSs.imp (Ww h1 h2) fun E σ H z_=>by
  obtain⟨B,Z,F,τ,R,h⟩:=z_
  refine⟨B,Z,F,τ,R,?_⟩
  unfold zM at h
  cases q:f τ with
  |nx τ'=>rw[q] at h;exact fun σ' F' H' ff R'=>⟨B,Z,F',τ',R',Post.same h ff⟩
  |rt d=>rw[q] at h;exact h
  |bk d=>rw[q] at h;exact h
  |ct d=>rw[q] at h;exact h
  |ex d=>rw[q] at h;exact h
  |no=>rw[q] at h;exact h
  |rs c d=>rw[q] at h;exact h
  |ro c d=>rw[q] at h;exact h
  |rb c d=>rw[q] at h;exact h
noncomputable def yB(fe:FE):FS:=fun τ=>Fl.of (fe τ) fun d=>.rt d
theorem tE.at{B Z F H:Hp}{τ:DS}{σ:St}{Q:VK}{G:D→Prop}(R:RS X.K B Z F τ σ H)(h:Ok X (fe τ) G)
  (k:∀d v F1 H1,G d→Ext F H F1 H1→RS X.K B Z F1 τ σ H1→Rep X.K F1 d v→Q v H1):tE X fe σ H Q:=
 tE.of R.rv h fun d v F1 H1 g x _ r=>k d v F1 H1 g x (R.ext x) r
theorem zK(he:PDE X e fe):PDS X (.Return (some e) pos) (yB fe):=
 PS.imp (Zl he) fun E σ H z_=>by obtain⟨B,Z,F,τ,R,h⟩:=z_;exact tE.at R h.of fun d v F1 H1 g x R1 r=>g v F1 H1 R1.out r
noncomputable def sIf(gc:FT)(f g:FS):FS:=fun τ=>Fl.of (gc τ) fun b=>if b=true then f τ else g τ
theorem yM{a b:List Stmt}(hc:PDT X c gc)(ha:vv X a f)(hb:vv X b g):PDS X (.If c a b pos) (sIf gc f g):=
 PS.imp (ps_if hc ha hb) fun E σ H z_=>by
  obtain⟨B,Z,F,τ,R,h⟩:=z_
  refine tTs.of R.rv h.of fun k F1 H1 q x _=>?_
  cases k with
  |true=>rw[if_pos rfl] at q ⊢;exact⟨B,Z,F1,τ,R.ext x,q.same x.ff⟩
  |false=>rw[if_neg (by simp)] at q ⊢;exact⟨B,Z,F1,τ,R.ext x,q.same x.ff⟩
theorem RV.set{K:Frag}{F H:Hp}{τ:DS}{σ:St}{i:Nat}{d:D}{v:V}(R:RV K F τ σ H)(r:Rep K F d v):RV K F (τ.set i (some (.val d))) (σ.set i (some v)) H:=by
 refine⟨R.fh,by simp[R.len],fun j e h=>?_,fun j es h=>?_,fun j k ds es a hjk h1 h2 h3 h4=>?_,?_,?_⟩
 ·by_cases hij:i=j
  ·subst hij
   have hlt:i<τ.length:=by
    rcases Nat.lt_or_ge i τ.length with z|z
    ·exact z
    ·rw[List.getElem?_eq_none_iff.mpr (by simpa using z)] at h;cases h
   rw[getElem?_set_self hlt] at h
   cases h
   exact⟨v,by rw[getElem?_set_self (by rw[← R.len];exact hlt)],r⟩
  ·rw[getElem?_set_ne hij] at h ⊢
   exact R.val j e h
 ·by_cases hij:i=j
  ·subst hij
   rw[getElem?_set] at h
   simp only[if_true] at h
   split at h <;> cases h
  ·rw[getElem?_set_ne hij] at h ⊢
   exact R.own j es h
 ·have n1:i≠j:=fun z=>by
   subst z
   rw[getElem?_set] at h1
   simp only[if_true] at h1
   split at h1 <;> cases h1
  have n2:i≠k:=fun z=>by
   subst z
   rw[getElem?_set] at h2
   simp only[if_true] at h2
   split at h2 <;> cases h2
  rw[getElem?_set_ne n1] at h1 h3
  rw[getElem?_set_ne n2] at h2 h4
  exact R.dis j k ds es a hjk h1 h2 h3 h4
 ·exact R.tt
 ·exact R.ob.put rfl fun _ _ z=>by cases z
theorem RS.set{K:Frag}{B Z F H:Hp}{τ:DS}{σ:St}{i:Nat}{d:D}{v:V}(R:RS K B Z F τ σ H)(r:Rep K F d v):RS K B Z F (τ.set i (some (.val d))) (σ.set i (some v)) H:=
 ⟨R.rv.set r,R.bh,R.zf,R.nb,fun j ds a h1 h2=>by
  have n1:i≠j:=fun z=>by
   subst z
   rw[getElem?_set] at h1
   simp only[if_true] at h1
   split at h1 <;> cases h1
  rw[getElem?_set_ne n1] at h1 h2
  exact R.ob j ds a h1 h2,fun j m c fs a h1 h2=>by
  obtain⟨n,h1⟩:=zZ (s:=some (.val d)) rfl rfl h1
  rw[getElem?_set_ne n] at h2
  exact R.oo j m c fs a h1 h2,fun a0 dx b1 b2 j m c fs h=>by
  obtain⟨n,h⟩:=zZ (s:=some (.val d)) rfl rfl h
  rw[getElem?_set_ne n]
  exact R.sf a0 dx b1 b2 j m c fs h,fun j c fs a h1 h2=>by
  obtain⟨n,h1⟩:=zZ (s:=some (.val d)) rfl rfl h1
  rw[getElem?_set_ne n] at h2
  exact R.ro j c fs a h1 h2⟩
noncomputable def y7(i:Nat)(fe:FE):FS:=fun τ=>Fl.of (fe τ) fun d=>.nx (τ.set i (some (.val d)))
theorem yb{i:Nat}{x:Str}{pos':Pos}(hN:X.N.Nodup)(hi:X.N[i]?=some x)(hx:Loc X.env.scope x)(he:PDE X e fe)(hs:swapsWith e (some (.Name x pos')) pos.line X.env=pure false:=by rfl)(hf:X.fn x=true∨X.env.scope.names.lookup x=some .local:=by first|exact .inl rfl|exact .inr rfl|assumption) :
  PDS X (.Assign [.Name x pos'] e pos) (y7 i fe):=
 PS.imp (Wx hN hi hx he hs hf) fun E σ H z_=>by obtain⟨B,Z,F,τ,R,h⟩:=z_;exact tE.at R h.of fun d v F1 H1 g x R1 r=>g _ F1 H1 x.ff (R1.set r)
noncomputable def tFr(X:Cx)(f:FA):TE:=fun σ H Q=>∃F τ,RV X.K F τ σ H∧Ok X (f τ) fun ds=>∀p vs F' H',Ext F H F' H'→H' p=none→Reps X.K F' ds vs→Q (.ref p) (upd H' p (.lst vs))
noncomputable def PDF(X:Cx)(e:Expr)(f:FA):Prop:=PE X e (tFr X f)
theorem Uk(h:PDA X es fs):PDF X (.List es pos) (fun τ=>(fs τ).bind fun ds=>if ds.length≤sizeLine then .ok ds else .no):=
 PE.imp (WA h) fun σ H Q z_=>by
  obtain⟨F,τ,R,hq⟩:=z_
  refine tAs.of R hq.bind fun ds vs F1 H1 g x R1 r=>?_
  obtain⟨z,g⟩:=zW g
  exact⟨by rw[← r.length];exact z,fun p hp=>g p vs F1 H1 x hp r⟩
theorem v0{ff:FA}(h:PDF X e ff):PDE X e (fun τ=>(ff τ).bind fun ds=>.ok (.lst ds)):=
 PE.imp h fun σ H Q ⟨F,τ,R,hq⟩=>⟨F,τ,R,hq.bind.imp fun ds g p vs F1 H1 x hp r=>by
  refine g (.ref p) _ _ (x.trans (Ext.new x.fh hp)) ?_
  simp only[Rep]
  exact⟨p,vs,rfl,zr,r.mono (zI (zv x.fh hp))⟩⟩
noncomputable def ul(i:Nat)(ff:FA):FS:=fun τ=>Fl.of (ff τ) fun ds=>.nx (τ.set i (some (.own ds)))
theorem RV.setO{K:Frag}{F H:Hp}{τ:DS}{σ:St}{i:Nat}{p:Addr}{ds:List D}{vs:List V}(R:RV K F τ σ H)(hp:H p=none)(r:Reps K F ds vs):RV K F (τ.set i (some (.own ds))) (σ.set i (some (.ref p))) (upd H p (.lst vs)):=by
 have nofr:=zv R.fh hp
 have hlt:∀{o:Sl},(τ.set i (some (.own ds)))[i]?=some (some o)→i<τ.length:=fun {o} h=>by
  rcases Nat.lt_or_ge i τ.length with z|z
  ·exact z
  ·rw[List.getElem?_eq_none_iff.mpr (by simpa using z)] at h;cases h
 refine⟨R.fh.trans (zI hp),by simp[R.len],fun j e h=>?_,fun j es h=>?_,fun j k es es' a hjk h1 h2 h3 h4=>?_,?_,?_⟩
 ·by_cases hij:i=j
  ·subst hij
   rw[getElem?_set_self (hlt h)] at h;cases h
  ·rw[getElem?_set_ne hij] at h ⊢
   exact R.val j e h
 ·by_cases hij:i=j
  ·subst hij
   have l:=hlt h
   rw[getElem?_set_self l] at h
   cases h
   exact⟨p,vs,by rw[getElem?_set_self (by rw[← R.len];exact l)],zr,nofr,r⟩
  ·rw[getElem?_set_ne hij] at h ⊢
   obtain⟨a,ws,q1,q2,q3,q4⟩:=R.own j es h
   exact⟨a,ws,q1,by rw[zm (zx q2 hp)];exact q2,q3,q4⟩
 ·by_cases n1:i=j
  ·subst n1
   rw[getElem?_set_ne hjk] at h2 h4
   obtain⟨a',ws,q1,q2,q3,q4⟩:=R.own k es' h2
   rw[q1] at h4;cases h4
   have l:=hlt h1
   rw[getElem?_set_self (by rw[← R.len];exact l)] at h3
   cases h3
   rw[hp] at q2;cases q2
  ·by_cases n2:i=k
   ·subst n2
    rw[getElem?_set_ne (Ne.symm hjk)] at h1 h3
    obtain⟨a',ws,q1,q2,q3,q4⟩:=R.own j es h1
    rw[q1] at h3;cases h3
    have l:=hlt h2
    rw[getElem?_set_self (by rw[← R.len];exact l)] at h4
    cases h4
    rw[hp] at q2;cases q2
   ·rw[getElem?_set_ne n1] at h1 h3
    rw[getElem?_set_ne n2] at h2 h4
    exact R.dis j k es es' a hjk h1 h2 h3 h4
 ·exact R.tt.step (fun _ _ e=>.inl e) (fun b o e _=>by rw[zm (zx e hp)];exact e) (v7 fun _ z=>nomatch z)
 ·have o1:ObsOk K F (τ.set i (some (.own ds))) (σ.set i (some (.ref p))) H:=R.ob.put rfl fun _ l _ z=>by
   cases z;exact R.ob.fresh hp
  exact o1.updL (.inl hp) (o1.fresh hp)
theorem RS.setO{K:Frag}{B Z F H:Hp}{τ:DS}{σ:St}{i:Nat}{p:Addr}{ds:List D}{vs:List V}(R:RS K B Z F τ σ H)(hp:H p=none)(r:Reps K F ds vs):RS K B Z F (τ.set i (some (.own ds))) (σ.set i (some (.ref p))) (upd H p (.lst vs)):=
 ⟨R.rv.setO hp r,R.bh.trans (.of (zI hp)),R.zf,R.nb,fun j es a h1 h2=>by
  by_cases n1:i=j
  ·subst n1
   have l:i<τ.length:=by
    rcases Nat.lt_or_ge i τ.length with z|z
    ·exact z
    ·rw[List.getElem?_eq_none_iff.mpr (by simpa using z)] at h1;cases h1
   rw[getElem?_set_self (by rw[← R.rv.len];exact l)] at h2
   cases h2
   exact xN R.bh hp
  ·rw[getElem?_set_ne n1] at h1 h2
   exact R.ob j es a h1 h2,fun j m c fs a h1 h2=>by
  obtain⟨n,h1⟩:=zZ (s:=some (.own ds)) rfl rfl h1
  rw[getElem?_set_ne n] at h2
  rw[R.rv.ob.lof (.inl ⟨m,fs,h1⟩) h2 (.inl hp)]
  exact R.oo j m c fs a h1 h2,fun a0 dx b1 b2 j m c fs h=>by
  obtain⟨n,h⟩:=zZ (s:=some (.own ds)) rfl rfl h
  rw[getElem?_set_ne n]
  exact R.sf a0 dx b1 b2 j m c fs h,fun j c fs a h1 h2=>by
  obtain⟨n,h1⟩:=zZ (s:=some (.own ds)) rfl rfl h1
  rw[getElem?_set_ne n] at h2
  exact R.ro j c fs a h1 h2⟩
theorem WD{i:Nat}{x:Str}{pos':Pos}{ff:FA}(hN:X.N.Nodup)(hi:X.N[i]?=some x)(hx:Loc X.env.scope x)(he:PDF X e ff)(hs:swapsWith e (some (.Name x pos')) pos.line X.env=pure false:=by rfl)(hf:X.fn x=true∨X.env.scope.names.lookup x=some .local:=by first|exact .inl rfl|exact .inr rfl|assumption) :
  PDS X (.Assign [.Name x pos'] e pos) (ul i ff):=
 PS.imp (Wx hN hi hx he hs hf) fun E σ H z_=>by obtain⟨B,Z,F,τ,R,h⟩:=z_;exact⟨F,τ,R.rv,h.of.imp fun ds g p vs F1 H1 x hp r=>g _ F1 _ x.ff ((R.ext x).setO hp r)⟩
theorem RV.own_upd{K:Frag}{F H:Hp}{τ:DS}{σ:St}{i:Nat}{p:Addr}{ds es:List D}{ws:List V}(R:RV K F τ σ H)(h:τ[i]?=some (some (.own ds)))(hp:σ[i]?=some (some (.ref p)))(r:Reps K F es ws) :
  RV K F (τ.set i (some (.own es))) σ (upd H p (.lst ws)):=by
 obtain⟨a,vs,q1,q2,q3,q4⟩:=R.own i ds h
 rw[q1] at hp;cases hp
 have l:i<τ.length:=(List.getElem?_eq_some_iff.mp h).1
 refine⟨fun b o e=>?_,by simp[R.len],fun j e h'=>?_,fun j es' h'=>?_,fun j k e1 e2 b hjk h1 h2 h3 h4=>?_,?_,?_⟩
 ·have n:b≠p:=fun z=>by subst z;rw[q3] at e;cases e
  rw[zm n];exact R.fh b o e
 ·by_cases hij:i=j
  ·subst hij;rw[getElem?_set_self l] at h';cases h'
  ·rw[getElem?_set_ne hij] at h';exact R.val j e h'
 ·by_cases hij:i=j
  ·subst hij
   rw[getElem?_set_self l] at h';cases h'
   exact⟨p,ws,q1,zr,q3,r⟩
  ·rw[getElem?_set_ne hij] at h'
   obtain⟨a',vs',z1,z2,z3,z4⟩:=R.own j es' h'
   have n:a'≠p:=fun z=>by subst z;exact R.dis i j ds es' a' hij h h' q1 z1
   exact⟨a',vs',z1,by rw[zm n];exact z2,z3,z4⟩
 ·have:∀{m:Nat} {e:List D},(τ.set i (some (.own es)))[m]?=some (some (.own e))→∃e',τ[m]?=some (some (.own e')):=fun {m e} z=>by
   by_cases him:i=m
   ·subst him;exact⟨ds,h⟩
   ·rw[getElem?_set_ne him] at z;exact⟨e,z⟩
  obtain⟨x1,y1⟩:=this h1
  obtain⟨x2,y2⟩:=this h2
  exact R.dis j k x1 x2 b hjk y1 y2 h3 h4
 ·exact R.tt.step (fun _ _ e=>.inl e) (fun b o e n=>by
   have:b≠p:=fun z=>by subst z;rw[q2] at e;cases e;exact n _ rfl
   rw[zm this];exact e) (v7 fun _ z=>nomatch z)
 ·exact(R.ob.updL (.inr ⟨vs,q2⟩) fun j c a g1 g2 hl=>R.ob.lo j i c ds a p g1 h g2 q1 hl).putS h
theorem RS.own_upd{K:Frag}{B Z F H:Hp}{τ:DS}{σ:St}{i:Nat}{p:Addr}{ds es:List D}{ws:List V}(R:RS K B Z F τ σ H)(h:τ[i]?=some (some (.own ds)))(hp:σ[i]?=some (some (.ref p)))(r:Reps K F es ws) :
  RS K B Z F (τ.set i (some (.own es))) σ (upd H p (.lst ws)):=by
 have hb:=R.ob i ds p h hp
 refine⟨R.rv.own_upd h hp r,fun b o e=>?_,R.zf,R.nb,fun j e a h1 h2=>?_,fun j m c fs a h1 h2=>?_,fun a0 dx b1 b2 j m c fs h=>R.sf a0 dx b1 b2 j m c fs (zZ (s:=some (.own es)) rfl rfl h).2,fun j c fs a h1 h2=>R.ro j c fs a (zZ (s:=some (.own es)) rfl rfl h1).2 h2⟩
 ·have n:b≠p:=fun z=>by subst z;rw[hb] at e;cases e
  rw[zm n];exact R.bh b o e
 ·by_cases him:i=j
  ·subst him;exact R.ob i ds a h h2
  ·rw[getElem?_set_ne him] at h1;exact R.ob j e a h1 h2
 ·have h1:=(zZ (s:=some (.own es)) rfl rfl h1).2
  obtain⟨p',vs,q1,q2,_⟩:=R.rv.own i ds h
  rw[q1] at hp;cases hp
  rw[R.rv.ob.lof (.inl ⟨m,fs,h1⟩) h2 (.inr ⟨vs,q2⟩)]
  exact R.oo j m c fs a h1 h2
noncomputable def wZ(τ:DS)(i:Nat):Rs (List D):=match τ[i]? with
 | some (some (.own ds))=>.ok ds
 |_=>.no
theorem wD{τ:DS}{i:Nat}{P:List D→Prop}(h:Ok X (wZ τ i) P):∃ds,τ[i]?=some (some (.own ds))∧P ds:=by
 unfold wZ at h
 cases q:τ[i]? with
 |none=>rw[q] at h;exact h.elim
 |some o=>
  cases o with
  |none=>rw[q] at h;exact h.elim
  |some sl=>
   cases sl with
   |val d=>rw[q] at h;exact h.elim
   |obj n c fs=>rw[q] at h;exact h.elim
   |obr c fs=>rw[q] at h;exact h.elim
   |own ds=>rw[q] at h;exact⟨ds,rfl,h⟩
noncomputable def VX(i:Nat)(fe:FE):FS:=fun τ=>Fl.of (wZ τ i) fun ds=>Fl.of (fe τ) fun d=>if ds.length<sizeLine then .nx (τ.set i (some (.own (ds++[d])))) else .no
theorem Ui{i:Nat}{x:Str}{p1 apos cpos:Pos}(hx:PE X (.Name x p1) (ZR i))(he:PDE X e fe)
  (hfew:((backTo cpos (starEach [e] X.env)).all (fun x=>!x.1)&&(backToKw cpos (keywordEach [] X.env)).all (fun x=>x.1.isSome)
   && decide ([e].length+([]:List Keyword).length+(if ([]:List Keyword).isEmpty then 0 else 1)<30))=true:=by rfl)
  (hline:(apos.endLine==cpos.line)=true:=by rfl) (hs:starEach [e] X.env=[(false,eval e X.env)]:=by rfl) (hplain:(backTo cpos (starEach [] X.env)).any (·.1)=false:=by rfl)
  (hbase:attributeBase (.Name x p1) "append" X.env (eval (.Name x p1) X.env)=eval (.Name x p1) X.env:=by rfl)
  (hsw:swapsWith (.Call (.Attribute (.Name x p1) "append" apos) [e] [] cpos) none pos.line X.env=pure false:=by rfl) :
  PDS X (.Expr (.Call (.Attribute (.Name x p1) "append" apos) [e] [] cpos) pos) (VX i fe):=
 PS.imp (V6 (Je PySem.F.plainAttrs_list PySem.F.slot_list_append PySem.F.type_list_append v9 hx (wq he u7 (by rw[hs];rfl)) hbase hfew hline (by rw[hs];rfl) hplain) hsw) fun E σ H z_=>by
  obtain⟨B,Z,F,τ,R,h⟩:=z_
  obtain⟨ds,h1,h2⟩:=wD (X:=X) (Post.of h)
  obtain⟨a,vs,q1,q2,q3,q4⟩:=R.rv.own i ds h1
  refine⟨_,q1,.inl ⟨rfl,vs,SqL.of q2⟩,?_⟩
  refine tE.at R h2.of fun d v F1 H1 g x R1 r=>?_
  by_cases z:ds.length<sizeLine
  ·rw[if_pos z] at g
   refine⟨a,vs,v,rfl,rfl,x.hh _ _ q2,by rw[← q4.length];exact z,?_⟩
   exact g _ F1 _ x.ff (R1.own_upd h1 q1 ((q4.mono x.ff).append (Reps.cons r Reps.nil)))
  ·rw[if_neg z] at g;exact g.elim
noncomputable def VU(i:Nat)(fi fe:FE):FS:=fun τ=>Fl.of (fe τ) fun d=>Fl.of (wZ τ i) fun ds=>Fl.of (fi τ) fun k=>match k with
 |.int k=>match ixN ds.length k with
  |some j=>.nx (τ.set i (some (.own (ds.set j d))))
  |none=>.no
 |_=>.no
theorem Ug{i:Nat}{x:Str}{p1 spos:Pos}{ix:Expr}{fi:FE}(hx:PE X (.Name x p1) (ZR i))(hi:PDE X ix fi)(he:PDE X e fe)
  (ha:∀v,assign (.Subscript (.Name x p1) ix spos) X.env v=(do
   let ov ← holding [v] (eval (.Name x p1) X.env)
   let iv ← holding [v,ov] (eval ix X.env)
   standAt spos
   holding [v,ov,iv] (setItem ov iv v)
   release [v,ov,iv] []):=by intro _;rfl)
  (hs:swapsWithSole [.Subscript (.Name x p1) ix spos] e pos.line X.env=pure false:=by rfl) (hw:swappedStores [.Subscript (.Name x p1) ix spos] e X.env=pure none:=by rfl)
  (h1:(assignEach [.Subscript (.Name x p1) ix spos] X.env).map (·.2)=[assign (.Subscript (.Name x p1) ix spos) X.env]:=by rfl) :
  PDS X (.Assign [.Subscript (.Name x p1) ix spos] e pos) (VU i fi fe):=
 PS.imp (JD he (JG hx hi Wl ha) hs hw h1) fun E σ H z_=>by
  obtain⟨B,Z,F,τ,R,h⟩:=z_
  refine tE.at R h.of fun d v F1 H1 g x R1 r=>?_
  obtain⟨ds,h1,h2⟩:=wD (X:=X) (Post.of g)
  obtain⟨a,vs,q1,q2,q3,q4⟩:=R1.rv.own i ds h1
  refine⟨_,q1,?_⟩
  refine tE.at R1 h2.of fun k w F2 H2 g2 x2 R2 r2=>?_
  cases k with
  |int k=>
   simp only[Rep] at r2
   simp only at g2
   cases q:ixN ds.length k with
   |none=>rw[q] at g2;exact g2.elim
   |some j=>
    rw[q] at g2
    refine⟨a,vs,k,j,rfl,r2,x2.hh _ _ q2,by rw[← q4.length];exact q,?_⟩
    exact g2 _ F2 _ (x.ff.trans x2.ff) (R2.own_upd h1 q1 (Reps.set (r.mono x2.ff) j (q4.mono x2.ff)))
  |_=>exact g2.elim
noncomputable def Wn(i:Nat):FS:=fun τ=>Fl.of (wZ τ i) fun ds=>.rt (.lst ds)
theorem WF{i:Nat}{x:Str}{p1:Pos}(hx:PE X (.Name x p1) (ZR i)):PDS X (.Return (some (.Name x p1)) pos) (Wn i):=
 PS.imp (Zl hx) fun E σ H z_=>by
  obtain⟨B,Z,F,τ,R,h⟩:=z_
  obtain⟨ds,h1,h2⟩:=wD (X:=X) (Post.of h)
  obtain⟨a,vs,q1,q2,q3,q4⟩:=R.rv.own i ds h1
  have hb:=R.ob i ds a h1 q1
  refine⟨_,q1,h2 (.ref a) (upd F a (.lst vs)) H ⟨?_,R.bh,fun b o e=>?_,fun b o e=>?_,fun _=>R.rv.tt.freeze q2⟩ ?_⟩
  ·exact R.zf.trans (zI q3)
  ·by_cases z:b=a
   ·subst z;rw[zr] at e;cases e;exact q2
   ·rw[zm z] at e;exact R.rv.fh b o e
  ·by_cases z:b=a
   ·subst z;exact .inr hb
   ·rw[zm z] at e;exact R.nb b o e
  ·simp only[Rep]
   exact⟨a,vs,rfl,zr,q4.mono (zI q3)⟩
noncomputable def U0(i:Nat)(fi:FE):FE:=fun τ=>(wZ τ i).bind fun ds=>(fi τ).bind fun k=>match k with
 |.int k=>match atI ds k with
  |some d=>.ok d
  |none=>.no
 |_=>.no
theorem jy{K:Frag}{F:Hp}{ds:List D}{vs:List V}{k:Int}{d:D}(r:Reps K F ds vs)(h:atI ds k=some d):∃v,atI vs k=some v∧Rep K F d v:=by
 unfold atI at h ⊢
 rw[← r.length]
 cases q:ixN ds.length k with
 |none=>rw[q] at h;cases h
 |some j=>
  rw[q] at h
  exact r.get h
theorem Ul{i:Nat}{x:Str}{p1:Pos}{ix:Expr}{fi:FE}(hx:PE X (.Name x p1) (ZR i))(hi:PDE X ix fi)(hs:ZN ix:=by intro _ _;rfl):PDE X (.Subscript (.Name x p1) ix pos) (U0 i fi):=
 PE.imp (Jd ix_list hx hi hs) fun σ H Q z_=>by
  obtain⟨F,τ,R,h⟩:=z_
  obtain⟨ds,h1,h2⟩:=wD (X:=X) (Ok.bind h)
  obtain⟨a,vs,q1,q2,q3,q4⟩:=R.own i ds h1
  refine⟨_,q1,?_⟩
  refine tE.of R h2.bind fun k w F2 H2 g2 x2 R2 r2=>?_
  cases k with
  |int k=>
   simp only[Rep] at r2
   simp only at g2
   cases q:atI ds k with
   |none=>rw[q] at g2;exact g2.elim
   |some d=>
    rw[q] at g2
    obtain⟨v,z1,z2⟩:=jy q4 q
    exact⟨a,vs,k,v,rfl,r2,SqL.of (x2.hh _ _ q2),z1,g2 v F2 H2 x2 (z2.mono x2.ff)⟩
  |_=>exact g2.elim
noncomputable def Vm(i:Nat):FE:=fun τ=>(wZ τ i).bind fun ds=>.ok (.int ds.length)
theorem WJ{i:Nat}{x:Str}{p1 p:Pos}(hx:PE X (.Name x p1) (ZR i))(hg:Gl X "len")(hm:X.mg "len" = none)
  (he:starEach [.Name x p1] X.env=[(false,eval (.Name x p1) X.env)]:=by rfl) (hpl:(backTo pos (starEach [] X.env)).any (·.1)=false:=by rfl):PDE X (.Call (.Name "len" p) [.Name x p1] [] pos) (Vm i):=
 PE.imp (pe_callB call_len_seq hg hm PySem.boot_len (wq hx u7 (by rw[he];rfl)) (he:=by rw[he];rfl) (hpl:=hpl)) fun σ H Q z_=>by
  obtain⟨F,τ,R,h⟩:=z_
  obtain⟨ds,h1,h2⟩:=wD (X:=X) (Ok.bind h)
  obtain⟨a,vs,q1,q2,q3,q4⟩:=R.own i ds h1
  refine⟨_,q1,a,vs,rfl,.inl (SqL.of q2),?_⟩
  rw[← q4.length]
  exact h2 (.int ds.length) F H (Ext.refl R.fh) (by simp only[Rep])
end
noncomputable def X4(K:Frag)(J:It)(F1:Hp)(ds:List D):Prop:=∀(i:Nat) (F H:Hp),Same F1 F→Same F H →
 (ds.length≤i→J.stop i H)∧∀d,ds[i]?=some d→J.go i H∧∀x H',J.yld i H x H'→∃F',Ext F H F' H'∧Rep K F' d x
noncomputable def tI(X:Cx)(f:FA):TI:=fun σ H R=>∃F τ,RV X.K F τ σ H∧Ok X (f τ) fun ds=>∀J F1 H1,Ext F H F1 H1→X4 X.K J F1 ds→R J H1
noncomputable def PDI(X:Cx)(tg iter:Expr)(f:FA):Prop:=PI X tg iter (tI X f)
theorem _root_.L2.PI.imp{X:Cx}{tg e:Expr}{t t':TI}(h:PI X tg e t)(f:∀σ H Q,t' σ H Q→t σ H Q):PI X tg e t':=fun pins s σ H Q I q=>h pins s σ H Q I (f _ _ _ q)
section
variable{X:Cx}{pos:Pos}{e tg:Expr}{es:List Expr}{fe:FE}{fs:FA}
theorem Zz{K:Frag}{a:Addr}{F1:Hp}{ds:List D}{vs:List V}(e:SqL K F1 a vs)(r:Reps K F1 ds vs):X4 K (Itl K a) F1 ds:=fun i F H f1 f2=>by
 have q:SqL K H a vs:=(f1.trans f2).seq e
 refine⟨fun h=>⟨vs,q,by rw[← r.length];exact h⟩,fun d hd=>?_⟩
 obtain⟨v,h1,h2⟩:=r.get hd
 refine⟨⟨vs,v,q,h1⟩,fun x H' y=>?_⟩
 obtain⟨e1,y⟩:=y
 subst e1
 have h3:=y vs q
 rw[h1] at h3;cases h3
 exact⟨F,Ext.refl f2,h2.mono f1⟩
theorem Qd{K:Frag}{a:Addr}{F1:Hp}{ds:List D}{vs:List V}(e:SqT K F1 a vs)(r:Reps K F1 ds vs):X4 K (Itt K a) F1 ds:=fun i F H f1 f2=>by
 have q:SqT K H a vs:=Same.seqT (f1.trans f2) e
 refine⟨fun h=>⟨vs,q,by rw[← r.length];exact h⟩,fun d hd=>?_⟩
 obtain⟨v,h1,h2⟩:=r.get hd
 refine⟨⟨vs,v,q,h1⟩,fun x H' y=>?_⟩
 obtain⟨e1,y⟩:=y
 subst e1
 have h3:=y vs q
 rw[h1] at h3;cases h3
 exact⟨F,Ext.refl f2,h2.mono f1⟩
noncomputable def Yx(lo:Int)(n:Nat):List D:=(List.range n).map fun (k:Nat)=>D.int (lo+k)
theorem Qf{K:Frag}{F1:Hp}{lo:Int}{n:Nat}:X4 K (Itr lo n) F1 (Yx lo n):=fun i F H f1 f2=>by
 have hl:(Yx lo n).length=n:=by simp[Yx]
 refine⟨fun h=>by rw[hl] at h;exact h,fun d hd=>?_⟩
 have hi:i<n:=by have:=(List.getElem?_eq_some_iff.mp hd).1;rw[hl] at this;exact this
 refine⟨hi,fun x H' y=>?_⟩
 obtain⟨e1,y⟩:=y
 subst e1
 refine⟨F,Ext.refl f2,?_⟩
 simp[Yx,hi] at hd
 subst hd
 simp only[Rep];exact y
noncomputable def Vd:List D→Option Int
 |[.int j]=>some j
 |_=>none
noncomputable def u6:D→Option (D×D)
 |.tup [x,y]=>some (x,y)
 |_=>none
theorem UV{ds:List D}{j:Int}(h:Vd ds=some j):ds=[.int j]:=by
 unfold Vd at h;split at h <;> cases h;rfl
theorem WP{d x y:D}(h:u6 d=some (x,y)):d=.tup [x,y]:=by
 unfold u6 at h;split at h <;> cases h;rfl
noncomputable def YJ(fs:FA):FA:=fun τ=>(fs τ).bind fun ds=>match Vd ds with
 |some j=>if -(2 ^ 62)≤j∧j<2 ^ 62 then .ok (Yx 0 j.toNat) else .no
 |none=>.no
theorem u0{a:Expr}{p:Pos}(hg:Gl X "range")(hm:X.mg "range" = none)(ha:PDA X [a] fs)(hs:starEach [a] X.env=[(false,eval a X.env)]:=by rfl):PDI X tg (.Call (.Name "range" p) [a] [] pos) (YJ fs):=
 PI.imp (XC hg hm ha hs) fun σ H R z_=>by
  obtain⟨F,τ,Rv,h⟩:=z_
  refine tAs.of Rv h.bind fun ds vs F1 H1 g x R1 r=>?_
  cases q1:Vd ds with
  |none=>rw[q1] at g;exact g.elim
  |some j=>
   rw[q1] at g
   have e:=UV q1
   subst e
   obtain⟨v,rfl,q⟩:=r.one
   simp only[Rep] at q;subst q
   obtain⟨z,g⟩:=zW g
   exact⟨j,rfl,z.1,z.2,g _ F1 H1 x Qf⟩
noncomputable abbrev FG:=D→DS→Rs DS
noncomputable def tG(X:Cx)(set:FG):TG:=fun v σ H Q=>∃F τ d,RV X.K F τ σ H∧Rep X.K F d v∧Ok X (set d τ) fun τ'=>∀σ',RV X.K F τ' σ' H→(∀B Z,RS X.K B Z F τ σ H→RS X.K B Z F τ' σ' H)→σ'.length=σ.length→Q σ' H
noncomputable def PDG(X:Cx)(tg:Expr)(set:FG):Prop:=PG X tg (tG X set)
theorem _root_.L2.PG.imp{X:Cx}{e:Expr}{t t':TG}(h:PG X e t)(f:∀v σ H Q,t' v σ H Q→t v σ H Q):PG X e t':=fun pins s σ H v u Q I r q=>h pins s σ H v u Q I r (f _ _ _ _ q)
noncomputable def gNm(i:Nat):FG:=fun d τ=>.ok (τ.set i (some (.val d)))
theorem xf{i:Nat}{x:Str}(hN:X.N.Nodup)(hi:X.N[i]?=some x)(hx:Loc X.env.scope x)(hf:X.fn x=true∨X.env.scope.names.lookup x=some .local:=by first|exact .inl rfl|exact .inr rfl|assumption):PDG X (.Name x pos) (gNm i):=
 PG.imp (Zm hN hi hx hf) fun v σ H Q z_=>by obtain⟨F,τ,d,R,r,h⟩:=z_;exact h _ (R.set r) (fun B Z R'=>R'.set r) (by simp)
noncomputable def gPr(i j:Nat):FG:=fun d τ=>match u6 d with
 | some (x,y)=>.ok ((τ.set i (some (.val x))).set j (some (.val y)))
 |none=>.no
theorem u3{i j k:Nat}{x y:Str}{px py:Pos}(hc:X.calm=true)(hN:X.N.Nodup)(hi:X.N[i]?=some x)(hx:Loc X.env.scope x)(hj:X.N[j]?=some y)(hy:Loc X.env.scope y)
  (hf:X.fn x=true∨X.env.scope.names.lookup x=some .local:=by first|exact .inl rfl|exact .inr rfl|assumption) (hf':X.fn y=true∨X.env.scope.names.lookup y=some .local:=by first|exact .inl rfl|exact .inr rfl|assumption) :
  PDG X (.Tuple [.Name x px,.Name y py] k pos) (gPr i j):=
 PG.imp (JF (n:=2) hc (Z2 (Zm hN hi hx hf) (Z2 (Zm hN hj hy hf') Uc))) fun v σ H Q z_=>by
  obtain⟨F,τ,d,R,r,h⟩:=z_
  unfold gPr at h
  cases q1:u6 d with
  |none=>rw[q1] at h;exact h.elim
  |some xy=>
   obtain⟨x,y⟩:=xy
   rw[q1] at h
   have e:=WP q1
   subst e
   simp only[Rep] at r
   obtain⟨a,vs,rfl,q,t⟩:=r
   obtain⟨v1,v2,rfl,r1,r2⟩:=t.two
   exact⟨a,_,rfl,Same.seqT R.fh q,rfl,v1,[v2],rfl,v2,[],rfl,rfl,h _ ((R.set r1).set r2) (fun B Z R'=>(R'.set r1).set r2) (by simp)⟩
noncomputable def xq(set:FG)(body:FS):List D→DS→Fl
 |[],τ=>.nx τ
 |d::r,τ=>Fl.of (set d τ) fun τ1=>match body τ1 with
  |.nx τ'=>xq set body r τ'
  |.ct τ'=>xq set body r τ'
  |.bk τ'=>.nx τ'
  |.rt d=>.rt d
  |.ro d τ'=>.ro d τ'
  |.rb d τ'=>.rb d τ'
  |.ex c=>.ex c
  |.no=>.no
  |.rs c τ'=>.rs c τ'
noncomputable def Zj(fi:FA)(set:FG)(body:FS):FS:=fun τ=>Fl.of (fi τ) fun ds=>xq set body ds τ
theorem Zn{iter:Expr}{body:List Stmt}{fi:FA}{set:FG}{fb:FS}(hp:PassesOwn (model X.prog X.w) X.A X.env X.xe)(hc:X.calm=true)(hi:PDI X tg iter fi)(hg:PDG X tg set)(hb:vv X body fb)
  (hs:∀x,foldedSetIterable iter X.env x=pure x:=by intro _;rfl):PDS X (.For tg iter body [] pos) (Zj fi set fb):=
 PS.imp (JC hp hc hi hg hb hs) fun E σ H z_=>by
  obtain⟨B,Z,F,τ,R,h⟩:=z_
  refine⟨F,τ,R.rv,h.of.imp fun ds g J F1 H1 x io=>?_⟩
  refine⟨fun i m σ H=>m=ds.length-i∧i≤ds.length∧∃F' τ',Same F1 F'∧RS X.K B Z F' τ' σ H∧Post X B Z F' E (xq set fb (ds.drop i) τ'),⟨ds.length,by simp,zero_le _,F1,τ,Same.refl _,R.ext x,g.same x.ff⟩,?_⟩
  rintro i m σ2 H2 ⟨rfl,hi,F2,τ2,f2,R2,p2⟩
  obtain⟨i1,i2⟩:=io i F2 H2 f2 R2.rv.fh
  by_cases hlt:i<ds.length
  ·have hd:ds.drop i=ds[i]::ds.drop (i+1):=List.drop_eq_getElem_cons hlt
   rw[hd] at p2
   obtain⟨go,yl⟩:=i2 ds[i] (by simp[hlt])
   refine .inr ⟨go,fun σ' H'=>∃F' τ',Same F2 F'∧RS X.K B Z F' τ' σ' H'∧Post X B Z F' E (xq set fb (ds.drop (i+1)) τ'),fun σ' H' ⟨F',τ',a,b,c⟩=>⟨ds.length-(i+1),by lia,rfl,hlt,F',τ',f2.trans a,b,c⟩,fun y H' yy=>?_⟩
   obtain⟨F3,x3,r3⟩:=yl y H' yy
   have R3:=R2.ext x3
   refine⟨F3,τ2,ds[i],R3.rv,r3,(Post.of p2).imp fun τ4 p4 σ4 _ R4 _=>⟨B,Z,F3,τ4,R4 B Z R3,?_⟩⟩
   cases q:fb τ4 with
   |nx τ5=>rw[q] at p4;exact fun σ' F' H' ff RR=>⟨F',τ5,x3.ff.trans ff,RR,Post.same p4 (x3.ff.trans ff)⟩
   |ct τ5=>rw[q] at p4;exact fun σ' F' H' ff RR=>⟨F',τ5,x3.ff.trans ff,RR,Post.same p4 (x3.ff.trans ff)⟩
   |bk τ5=>rw[q] at p4;exact fun σ' F' H' ff RR=>p4 σ' F' H' (x3.ff.trans ff) RR
   |rt d=>rw[q] at p4;exact p4
   |ro d τ'=>rw[q] at p4;exact fun v σ' F' H' ff RR rr=>p4 v σ' F' H' (x3.ff.trans ff) RR rr
   |rb d τ'=>rw[q] at p4;exact fun v σ' F' H' ff RR rr=>p4 v σ' F' H' (x3.ff.trans ff) RR rr
   |ex c=>rw[q] at p4;exact p4
   |no=>rw[q] at p4;exact p4
   |rs c τ5=>rw[q] at p4;exact fun σ' F' H' ff RR=>p4 σ' F' H' (x3.ff.trans ff) RR
  ·have e:i=ds.length:=by lia
   subst e
   rw[List.drop_length] at p2
   exact .inl ⟨i1 (le_refl _),p2 σ2 F2 H2 (Same.refl _) R2⟩
end
noncomputable def Uv(r:Rs D):Rs D:=match r with
 |.ok d=>.ok d
 |_=>.no
noncomputable def spD(K:Frag)(n:Nat)(g:List D→Rs D):Sp:=fun vs H Q E=>vs.length=n∧∃ds F,Same F H∧TbT F H∧Reps K F ds vs∧match g ds with
 |.ok d=>Ev K F H Q d
 |_=>False
noncomputable def zR(N:Nat)(ds:List D):DS:=ds.map (fun d=>some (.val d))++List.replicate (N-ds.length) none
noncomputable def vL:Fl→Rs D
 |.rt d=>.ok d
 |.ro d _=>.ok d
 |.nx _=>.ok .non
 |.rs c _=>.ex c
 |_=>.no
noncomputable def xQ(N:Nat)(fb:FS)(ds:List D):Rs D:=vL (fb (zR N ds))
theorem ZW{K:Frag}{F H:Hp}{N:List Str}{ds:List D}{vs:List V}(fh:Same F H)(tt:TbT F H)(r:Reps K F ds vs):RS K H F F (zR N.length ds) (L2.start N vs) H:=by
 have hl:=r.length
 have hval:∀(i:Nat) (o:Sl),(zR N.length ds)[i]?=some (some o)→∃d,ds[i]?=some d∧o=.val d:=fun i o h=>by
  unfold zR at h
  by_cases hi:i<ds.length
  ·rw[getElem?_append_left (by simpa using hi),getElem?_map] at h
   cases e:ds[i]? with
   |none=>rw[e] at h;cases h
   |some d=>rw[e] at h;cases h;exact⟨d,rfl,rfl⟩
  ·rw[getElem?_append_right (by simpa using hi),getElem?_replicate] at h
   split at h <;> cases h
 refine⟨⟨fh,?_,fun i d h=>?_,fun i es h=>?_,fun i j es es' a _ h1 _ _ _=>?_,tt,ObsOk.none fun i s h=>?_⟩,Hh.refl H,Same.refl F,fun a o e=>.inl e,fun i es a h1 _=>?_,fun i m c fs a h1 _=>?_,fun a0 dx _ _ j m c fs h1=>?_,fun j c fs a h1 _=>?_⟩
 ·simp[zR,L2.start,hl]
 ·obtain⟨d',h1,h2⟩:=hval i _ h
  cases h2
  obtain⟨v,q1,q2⟩:=r.get h1
  refine⟨v,?_,q2⟩
  have hi:i<vs.length:=(List.getElem?_eq_some_iff.mp q1).1
  unfold L2.start
  rw[getElem?_append_left (by simpa using hi),getElem?_map,q1];rfl
 ·obtain⟨_,_,h2⟩:=hval i _ h;cases h2
 ·obtain⟨_,_,h2⟩:=hval i _ h1;cases h2
 ·cases s with
  |none=>rfl
  |some o=>obtain⟨_,_,h2⟩:=hval i _ h;rw[h2];rfl
 ·obtain⟨_,_,h2⟩:=hval i _ h1;cases h2
 ·obtain⟨_,_,h2⟩:=hval i _ h1;cases h2
 ·obtain⟨_,_,h2⟩:=hval j _ h1;cases h2
 ·obtain⟨_,_,h2⟩:=hval j _ h1;cases h2
section
variable{P:Program}{w:World}{K:Frag}{mg:Str→Option Value}{base:Heap}
theorem fnD{x qual:Str}{st:Stmt}{f:Addr}{fd:FuncData}{N ps:List Str}{k n:Nat}{fb:FS}(F:Fun K x qual st f fd)(S:zP N ps (zi st))(hn:ps.length=n)
  (hbody:∀(cdv:Value) (A:Around) (outer:List Env) (s:Shared) (H:Hp) (E:XK),Room k (A.deeper (envOfC qual (zi st) s.heap.objs.size f cdv)) →
   vv (jq CX0 P w K mg base N qual (zi st) f cdv A outer s H E).nox (zE st) fb):FnOk P w K mg base CX0 (k+1) f fd ps (spD K n (xQ N.length fb)):=by
 refine F.ok S (fun vs H Q E h=>by rw[hn];exact h.1) fun cdv A outer s H vs Q E hr h=>⟨_,hbody cdv A outer s H E hr,?_⟩
 obtain⟨hl,ds,Fz,fh,tt,r,h⟩:=h
 refine⟨H,Fz,Fz,zR N.length ds,ZW fh tt r,?_⟩
 unfold xQ at h
 cases q:fb (zR N.length ds) with
 |nx τ=>rw[q] at h;exact fun σ F' H' ff RR=>h .non F' H' RR.out (by simp only[Rep])
 |rt d=>rw[q] at h;exact fun v F' H' x rr=>h v F' H' x rr
 |ro d τ=>rw[q] at h;exact fun v σ F' H' ff RR rr=>h v F' H' RR.out rr
 |rb d τ=>rw[q] at h;exact h.elim
 |bk τ=>rw[q] at h;exact h.elim
 |ct τ=>rw[q] at h;exact h.elim
 |ex c=>rw[q] at h;exact h.elim
 |no=>rw[q] at h;exact h.elim
 |rs c τ=>rw[q] at h;exact h.elim
theorem FnD.to{CX:CXT}{f:Addr}{fd:FuncData}{ps:List Str}{k n:Nat}{g g':List D→Rs D}(F:FnOk P w K mg base CX k f fd ps (spD K n g))(h:∀ds d,ds.length=n→g' ds=.ok d→g ds=.ok d):FnOk P w K mg base CX k f fd ps (spD K n g'):=
 F.imp fun vs H Q E ⟨hl,ds,Fz,fh,tt,r,q⟩=>⟨hl,ds,Fz,fh,tt,r,by
  cases e:g' ds with
  |ok d=>rw[e] at q;rw[h ds d (by rw[r.length];exact hl) e];exact q
  |ex c=>rw[e] at q;exact q.elim
  |no=>rw[e] at q;exact q.elim⟩
end
section
variable{X:Cx}{pos:Pos}{e tg:Expr}{es:List Expr}{fe:FE}{fs:FA}
noncomputable def zD(g:List D→Rs D)(fs:FA):FE:=fun τ=>(fs τ).bind fun ds=>Uv (g ds)
theorem WN{k n:Nat}{f:Addr}{fd:FuncData}{ps:List Str}{g:List D→Rs D}{x:Str}{p:Pos}(F:FnOk X.prog X.w X.K X.mg X.base CX0 k f fd ps (spD X.K n g))(hr:Room k X.A)(hg:Gl X x)(hm:X.mg x=some (.ref f))(hk:keepIn X.K (.ref f)=true)(hb:Binds X.K fd ps [])
  (ha:PDA X (e::es) fs) (hn:(e::es).length=n) (hfs:∀τ ds,fs τ=.ok ds→ds.length=(e::es).length) (hdb:(x==("__debug__" : Str))=false:=by decide) (he:starEach (e::es) X.env=(false,eval e X.env)::starEach es X.env:=by rfl) (hpl:(backTo pos (starEach es X.env)).any (·.1)=false:=by rfl) :
  PDE X (.Call (.Name x p) (e::es) [] pos) (zD g fs):=
 PE.imp (Uf F hr hg hm hk hb .nil (E:=E0) pass0 ha hdb he hpl) fun σ H Q z_=>by
  obtain⟨Fz,τ,R,h⟩:=z_
  have hb:=h.bind
  refine⟨Fz,τ,R,?_⟩
  cases q:fs τ with
  |no=>rw[q] at hb;exact hb
  |ex c=>rw[q] at hb;exact hb
  |ok ds=>
   rw[q] at hb
   intro vs F1 H1 x r
   rw[append_nil]
   refine⟨by rw[← r.length,hfs τ ds q,hn],ds,F1,x.fh,x.tt R.tt,r,?_⟩
   have hb:Ok X (Uv (g ds)) (Ev X.K Fz H Q):=hb
   cases z:g ds with
   |ok d=>rw[z] at hb;exact Ev.ext hb x
   |ex c=>rw[z] at hb;exact hb.elim
   |no=>rw[z] at hb;exact hb.elim
theorem zB(τ:DS)(ds:List D)(h:zh τ=.ok ds):ds.length=0:=by cases h;rfl
theorem zj{f:FE}{g:FA}{n:Nat}(hg:∀τ ds,g τ=.ok ds→ds.length=n)(τ:DS)(ds:List D)(h:za f g τ=.ok ds):ds.length=n+1:=by
 unfold za at h
 cases q:f τ with
 |no=>rw[q] at h;cases h
 |ex c=>rw[q] at h;cases h
 |ok d=>
  rw[q] at h
  cases q2:g τ with
  |no=>rw[q2] at h;cases h
  |ex c=>rw[q2] at h;cases h
  |ok r=>rw[q2] at h;cases h;simp[hg τ r q2]
noncomputable def jD(X:Cx)(f:Value)(g:List D→Rs D):Prop:=∃r,CallR X f r∧∀F H vs ds Q,Same F H→Reps X.K F ds vs→Ok X (g ds) (Ev X.K F H Q)→r vs H Q
noncomputable def yn(g:List D→Rs D)(fs:FA):FE:=fun τ=>(fs τ).bind g
theorem zS{id:String}{x:Str}{p:Pos}{g:List D→Rs D}(hc:jD X (.builtin id) g)(hg:Gl X x)(hm:X.mg x=none)(hv:bootBuiltins x=some (.builtin id))(ha:PDA X (e::es) fs)(hn:x ≠ "__name__" := by decide)(hdb:(x==("__debug__" : Str))=false:=by decide)
  (he:starEach (e::es) X.env=(false,eval e X.env)::starEach es X.env:=by rfl) (hpl:(backTo pos (starEach es X.env)).any (·.1)=false:=by rfl):PDE X (.Call (.Name x p) (e::es) [] pos) (yn g fs):=by
 obtain⟨r,h1,h2⟩:=hc
 exact PE.imp (L2.pe_callB h1 hg hm hv ha hn hdb he hpl) fun σ H Q z_=>by obtain⟨Fz,τ,R,h⟩:=z_;exact tAs.of R h.bind fun ds vs F1 H1 q x R1 rr=>h2 F1 H1 vs ds Q R1.fh rr (q.imp fun d e=>e.ext x)
theorem vf{id:String}{x:Str}{p:Pos}{g:List D→Rs D}(hc:jD X (.type id) g)(hg:Gl X x)(hm:X.mg x=none)(hv:bootBuiltins x=some (.type id))(ha:PDA X (e::es) fs)(hn:x ≠ "__name__" := by decide)(hdb:(x==("__debug__" : Str))=false:=by decide)
  (he:starEach (e::es) X.env=(false,eval e X.env)::starEach es X.env:=by rfl) (hpl:(backTo pos (starEach es X.env)).any (·.1)=false:=by rfl):PDE X (.Call (.Name x p) (e::es) [] pos) (yn g fs):=by
 obtain⟨r,h1,h2⟩:=hc
 exact PE.imp (L2.pe_callTy h1 hg hm hv ha hn hdb he hpl) fun σ H Q z_=>by obtain⟨Fz,τ,R,h⟩:=z_;exact tAs.of R h.bind fun ds vs F1 H1 q x R1 rr=>h2 F1 H1 vs ds Q R1.fh rr (q.imp fun d e=>e.ext x)
noncomputable def IxD(X:Cx)(op:D→D→Rs D):Prop:=∃r:R2,IxR X r∧∀F H x y dx dy Q,Same F H→Rep X.K F dx x→Rep X.K F dy y→Ok X (op dx dy) (Ev X.K F H Q)→r x y H Q
theorem yr{a b:Expr}{fa fb:FE}{op:D→D→Rs D}(hr:IxD X op)(ha:PDE X a fa)(hb:PDE X b fb)(hs:ZN b:=by intro _ _;rfl):PDE X (.Subscript a b pos) (eOp op fa fb):=by
 obtain⟨r,h1,h2⟩:=hr
 exact PE.imp (Jd h1 ha hb hs) (Xd h2)
noncomputable def ixD:D→D→Rs D
 |.lst ds,.int k=>match atI ds k with
  |some d=>.ok d
  |none=>.no
 |.tup ds,.int k=>match atI ds k with
  |some d=>.ok d
  |none=>.no
 |.scr ns,.int k=>match atI ns k with
  |some d=>.ok (.int d)
  |none=>.no
 |.str x,.int k=>match atI x.cps.toList k with
  |some c=>if x.length≤sizeLine then .ok (.str ⟨#[c]⟩) else .no
  |none=>.no
 |_,_=>.no
theorem U6{α β:Type}{f:α→β}{xs:List α}{k:Int}{a:α}(h:atI xs k=some a):atI (xs.map f) k=some (f a):=by
 unfold atI at h ⊢
 rw[length_map]
 cases q:ixN xs.length k with
 |none=>rw[q] at h;cases h
 |some j=>
  rw[q] at h
  have h:xs[j]?=some a:=h
  show(xs.map f)[j]?=_
  rw[getElem?_map,h];rfl
theorem yZ:IxD X ixD:=⟨_,Qc,fun F H x y dx dy Q fh r1 r2 h=>by
 cases dx with
 |lst ds=>
  cases dy with
  |int k=>
   simp only[Rep] at r1 r2;obtain⟨a,vs,rfl,q,t⟩:=r1;subst r2
   (delta ixD at h;dsimp only at h)
   cases z:atI ds k with
   |none=>rw[z] at h;exact h.elim
   |some d=>
    rw[z] at h
    obtain⟨v,z1,z2⟩:=jy t z
    exact .inl ⟨a,vs,k,v,rfl,rfl,SqL.of (fh _ _ q),z1,h v F H (Ext.refl fh) z2⟩
  |_=>exact h.elim
 |tup ds=>
  cases dy with
  |int k=>
   simp only[Rep] at r1 r2;obtain⟨a,vs,rfl,q,t⟩:=r1;subst r2
   (delta ixD at h;dsimp only at h)
   cases z:atI ds k with
   |none=>rw[z] at h;exact h.elim
   |some d=>
    rw[z] at h
    obtain⟨v,z1,z2⟩:=jy t z
    exact .inr (.inl ⟨a,vs,k,v,rfl,rfl,Same.seqT fh q,z1,h v F H (Ext.refl fh) z2⟩)
  |_=>exact h.elim
 |scr ns=>
  cases dy with
  |int k=>
   simp only[Rep] at r1 r2;obtain⟨a,rfl,q⟩:=r1;subst r2
   (delta ixD at h;dsimp only at h)
   cases z:atI ns k with
   |none=>rw[z] at h;exact h.elim
   |some d=>
    rw[z] at h
    exact .inl ⟨a,_,k,.int d,rfl,rfl,fh.seq q,U6 z,h (.int d) F H (Ext.refl fh) (by simp only[Rep])⟩
  |_=>exact h.elim
 |str x=>
  cases dy with
  |int k=>
   simp only[Rep] at r1 r2;subst r1;subst r2
   (delta ixD at h;dsimp only at h)
   cases z:atI x.cps.toList k with
   |none=>rw[z] at h;exact h.elim
   |some c=>
    rw[z] at h
    obtain⟨z2,h⟩:=zW h
    exact .inr (.inr ⟨x,k,c,rfl,rfl,z2,z,h _ F H (Ext.refl fh) (by simp only[Rep])⟩)
  |_=>exact h.elim
 |_=>cases dy <;> exact h.elim⟩
end
mutual
noncomputable def xj:D→PyData
 |.non=>.none
 |.bl b=>.bool b
 |.int i=>.int i
 |.str x=>.str x
 |.lst ds=>.list (toPys ds)
 |.tup ds=>.tuple (toPys ds)
 |.scr ns=>.list (ns.map .int)
 |.raw _=>.none
 |.exc _=>.none
 |.dct _ _=>.none
noncomputable def toPys:List D→List PyData
 |[]=>[]
 |d::r=>xj d::toPys r
end
mutual
noncomputable def xc:D→Bool
 |.lst ds=>plainDs ds
 |.tup ds=>plainDs ds
 |.raw _=>false
 |.exc _=>false
 |.dct _ _=>false
 |_=>true
noncomputable def plainDs:List D→Bool
 |[]=>true
 |d::r=>xc d&&plainDs r
end
theorem readsAll_ints{h:Heap}:∀{ns:List Int} {us:List Value},Vals (ns.map V.int) us→ReadsAll h us (ns.map .int) []
 |[],_,.nil=>.nil
 |n::ns,_,.cons r t=>by
  obtain⟨tk,rfl⟩:=r
  exact .cons (as:=[]) (bs:=[]) (.int n tk) (readsAll_ints t)
section
variable{X:Cx}{pins:List (Addr×Obj)}{σ:St}{F H:Hp}{s:Shared}
mutual
theorem xb(I:Inv X pins σ H s)(fh:Same F H):∀(d:D) {v:V} {u:Value},Rep X.K F d v→RelV v u→xc d=true→∃as,Reads s.heap u (xj d) as
 |.non,v,u,r,rv,_=>by simp only[Rep] at r;subst r;cases rv;exact⟨[],.none⟩
 |.bl b,v,u,r,rv,_=>by simp only[Rep] at r;subst r;cases rv;exact⟨[],.bool b⟩
 |.int i,v,u,r,rv,_=>by simp only[Rep] at r;subst r;obtain⟨t,rfl⟩:=rv;exact⟨[],.int i t⟩
 |.str x,v,u,r,rv,_=>by simp only[Rep] at r;subst r;obtain⟨t,rfl⟩:=rv;exact⟨[],.str x t⟩
 |.lst ds,v,u,r,rv,hp=>by
  simp only[Rep] at r;obtain⟨a,vs,rfl,q,t⟩:=r
  cases rv
  obtain⟨its,rr,⟨o,n,e,c,_,dd⟩,_⟩:=I.list (SqL.of (K:=X.K) (fh _ _ q))
  obtain⟨as,ra⟩:=readss_of I fh ds t rr (by simpa only[xc] using hp)
  exact⟨a::as,by rw[xj];exact .list e c dd (by simpa using ra)⟩
 |.tup ds,v,u,r,rv,hp=>by
  simp only[Rep] at r;obtain⟨a,vs,rfl,q,t⟩:=r
  cases rv
  obtain⟨its,rr,⟨o,e,c,n,dd⟩,_⟩:=I.tuple (Same.seqT fh q)
  obtain⟨as,ra⟩:=readss_of I fh ds t rr (by simpa only[xc] using hp)
  exact⟨as,by rw[xj];exact .tuple e c dd (by simpa using ra)⟩
 |.scr ns,v,u,r,rv,hp=>by
  simp only[Rep] at r;obtain⟨a,rfl,q⟩:=r
  cases rv
  obtain⟨its,rr,⟨o,n,e,c,_,dd⟩,_⟩:=I.list (fh.seq q)
  exact⟨[a],by rw[xj];exact .list e c dd (by simpa using readsAll_ints rr)⟩
 |.raw w,v,u,r,rv,hp=>by simp[xc] at hp
 |.exc w,v,u,r,rv,hp=>by simp[xc] at hp
 |.dct _ _,v,u,r,rv,hp=>by simp[xc] at hp
theorem readss_of(I:Inv X pins σ H s)(fh:Same F H):∀(ds:List D) {vs:List V} {us:List Value},Reps X.K F ds vs→Vals vs us→plainDs ds=true→∃as,ReadsAll s.heap us (toPys ds) as
 |[],vs,us,r,rv,_=>by simp only[Reps] at r;subst r;cases rv;exact⟨[],by rw[toPys];exact .nil⟩
 |d::ds,vs,us,r,rv,hp=>by
  simp only[Reps] at r
  obtain⟨v,r',rfl,q,t⟩:=r
  simp only[plainDs,Bool.and_eq_true] at hp
  cases rv with
  |cons r1 r2=>
   obtain⟨as,h1⟩:=xb I fh d q r1 hp.1
   obtain⟨bs,h2⟩:=readss_of I fh ds t r2 hp.2
   exact⟨as++bs,by rw[toPys];exact .cons h1 h2⟩
end
end
noncomputable def okD(d:D):Bool:=xc d&&(xj d).canLay0&&decide ((xj d).depth≤60)
theorem xU{d:D}(h:okD d=true):xc d=true∧(xj d).canLay0=true∧(xj d).depth≤60:=by
 simpa[okD,and_assoc] using h
noncomputable def xR(d e:D):Bool:=PyData.eqv (xj d) (xj e)
noncomputable def eqD:D→D→Rs D
 |.str x,.str y=>.ok (.bl (x==y))
 |.int x,.int y=>.ok (.bl (x==y))
 |d,e=>if okD d=true∧okD e=true then .ok (.bl (xR d e)) else .no
noncomputable def neD:D→D→Rs D
 |.str x,.str y=>.ok (.bl (!(x==y)))
 |.int x,.int y=>.ok (.bl (!(x==y)))
 |d,e=>if okD d=true∧okD e=true then .ok (.bl (!xR d e)) else .no
section
variable{X:Cx}
noncomputable def Y5(K:Frag)(b:D→D→Bool):R2:=fun x y H Q=>∃F d e,Same F H∧Rep K F d x∧Rep K F e y∧okD d=true∧okD e=true∧Q (.bl (b d e)) H
theorem XN(hu:X.A.units+64<cLine):OpR X (compareOp .Eq) (Y5 X.K xR):=by
 intro pins s σ H x y v u Q I rx ry h
 obtain⟨F,d,e,fh,r1,r2,o1,o2,q⟩:=h
 obtain⟨p1,c1,e1⟩:=xU o1
 obtain⟨p2,c2,e2⟩:=xU o2
 obtain⟨as,h1⟩:=xb I fh d r1 rx p1
 obtain⟨bs,h2⟩:=xb I fh e r2 ry p2
 exact SeqAt.compareEq_reads h1 h2 c1 c2 (by lia) ⟨.bl _,H,I,rfl,q⟩
theorem XJ(hu:X.A.units+64<cLine):OpR X (compareOp .NotEq) (Y5 X.K fun d e=>!xR d e):=by
 intro pins s σ H x y v u Q I rx ry h
 obtain⟨F,d,e,fh,r1,r2,o1,o2,q⟩:=h
 obtain⟨p1,c1,e1⟩:=xU o1
 obtain⟨p2,c2,e2⟩:=xU o2
 obtain⟨as,h1⟩:=xb I fh d r1 rx p1
 obtain⟨bs,h2⟩:=xb I fh e r2 ry p2
 exact SeqAt.compareNe_reads h1 h2 c1 c2 (by lia) ⟨.bl _,H,I,rfl,q⟩
theorem wF(hu:X.A.units+64<cLine):OpD X (compareOp .Eq) eqD:=⟨_,op_eq.or (XN hu),fun F H x y dx dy Q fh r1 r2 h=>by
 have gen:(Ok X (if okD dx=true∧okD dy=true then .ok (.bl (xR dx dy)) else .no) (Ev X.K F H Q))→rEq x y H Q∨Y5 X.K xR x y H Q:=fun h=>by
  obtain⟨z,h⟩:=zW h
  exact .inr ⟨F,dx,dy,fh,r1,r2,z.1,z.2,h _ F H (Ext.refl fh) (by simp only[Rep])⟩
 cases dx with
 |str a=>
  cases dy with
  |str b=>
   simp only[Rep] at r1 r2;subst r1;subst r2
   exact .inl ⟨rfl,by rw[uK];exact h _ F H (Ext.refl fh) (by simp only[Rep])⟩
  |_=>exact gen h
 |int a=>
  cases dy with
  |int b=>
   simp only[Rep] at r1 r2;subst r1;subst r2
   exact .inl ⟨rfl,by rw[uL];exact h _ F H (Ext.refl fh) (by simp only[Rep])⟩
  |_=>exact gen h
 |_=>exact gen h⟩
theorem wE(hu:X.A.units+64<cLine):OpD X (compareOp .NotEq) neD:=⟨_,op_ne.or (XJ hu),fun F H x y dx dy Q fh r1 r2 h=>by
 have gen:(Ok X (if okD dx=true∧okD dy=true then .ok (.bl (!xR dx dy)) else .no) (Ev X.K F H Q))→rNe x y H Q∨Y5 X.K (fun d e=>!xR d e) x y H Q:=fun h=>by
  obtain⟨z,h⟩:=zW h
  exact .inr ⟨F,dx,dy,fh,r1,r2,z.1,z.2,h _ F H (Ext.refl fh) (by simp only[Rep])⟩
 cases dx with
 |str a=>
  cases dy with
  |str b=>
   simp only[Rep] at r1 r2;subst r1;subst r2
   exact .inl ⟨rfl,by rw[uK];exact h _ F H (Ext.refl fh) (by simp only[Rep])⟩
  |_=>exact gen h
 |int a=>
  cases dy with
  |int b=>
   simp only[Rep] at r1 r2;subst r1;subst r2
   exact .inl ⟨rfl,by rw[uL];exact h _ F H (Ext.refl fh) (by simp only[Rep])⟩
  |_=>exact gen h
 |_=>exact gen h⟩
noncomputable def intOp(C:Int→Int→Bool)(g:Int→Int→D):D→D→Rs D
 |.int i,.int j=>if C i j=true then .ok (g i j) else .no
 |_,_=>.no
theorem Xc{f:Value→Value→Sem Value}{C':Int→Int→Prop}{C:Int→Int→Bool}{gv:Int→Int→V}{g:Int→Int→D}(h:OpR X f (rI C' gv))(hc:∀i j,C i j=true→C' i j)(hg:∀F i j,Rep X.K F (g i j) (gv i j)):OpD X f (intOp C g):=
 ⟨_,h,fun F H x y dx dy Q fh r1 r2 q=>by
  cases dx with
  |int i=>
   cases dy with
   |int j=>
    simp only[Rep] at r1 r2;subst r1;subst r2
    obtain⟨z,q⟩:=zW q
    exact⟨i,j,rfl,rfl,hc i j z,q _ F H (Ext.refl fh) (hg F i j)⟩
   |_=>exact q.elim
  |_=>cases dy <;> exact q.elim⟩
noncomputable def ZC(g:Int→Int→D):D→D→Rs D
 |.int i,.int j=>.ok (g i j)
 |_,_=>.no
theorem jb{f:Value→Value→Sem Value}{gv:Int→Int→V}{g:Int→Int→D}(h:OpR X f (rI0 gv))(hg:∀F i j,Rep X.K F (g i j) (gv i j)):OpD X f (ZC g):=
 ⟨_,h,fun F H x y dx dy Q fh r1 r2 q=>by
  cases dx with
  |int i=>
   cases dy with
   |int j=>
    simp only[Rep] at r1 r2;subst r1;subst r2
    exact⟨i,j,rfl,rfl,q _ F H (Ext.refl fh) (hg F i j)⟩
   |_=>exact q.elim
  |_=>cases dy <;> exact q.elim⟩
noncomputable def uz:=intOp (fun _ j=>decide (0<j)) fun i j=>.int (i%j)
theorem wu:OpD X (binaryOp .Mod) uz:=Xc JQ (fun i j h=>by simpa using h) fun _ _ _=>by simp only[Rep]
noncomputable def jo:=intOp (fun _ j=>decide (0<j∧j<1073741824)) fun i j=>.int (i / j)
theorem vI:OpD X (binaryOp .FloorDiv) jo:=Xc Up (fun i j h=>by have h':0<j∧j<1073741824:=of_decide_eq_true h;exact h') fun _ _ _=>by simp only[Rep]
noncomputable def ltI:=ZC fun i j=>.bl (decide (i<j))
noncomputable def leD:=ZC fun i j=>.bl (decide (i≤j))
noncomputable def gtD:=ZC fun i j=>.bl (decide (j<i))
theorem WS:OpD X (compareOp .Lt) ltI:=jb op_lt fun _ _ _=>by simp only[Rep]
theorem WT:OpD X (compareOp .LtE) leD:=jb op_le fun _ _ _=>by simp only[Rep]
theorem jd:OpD X (compareOp .Gt) gtD:=jb op_gt fun _ _ _=>by simp only[Rep]
noncomputable def zG:D→D→Rs D
 |.int i,.int j=>.ok (.int (i+j))
 |.str i,.str j=>if i.length+j.length≤sizeLine then .ok (.str (i++j)) else .no
 |.lst i,.lst j=>if i.length+j.length≤sizeLine then .ok (.lst (i++j)) else .no
 |_,_=>.no
theorem zu:OpD X (binaryOp .Add) zG:=⟨_,op_add.or (op_add_str.or JR),fun F H x y dx dy Q fh r1 r2 q=>by
 cases dx with
 |int i=>
  cases dy with
  |int j=>
   simp only[Rep] at r1 r2;subst r1;subst r2
   exact .inl ⟨i,j,rfl,rfl,q _ F H (Ext.refl fh) (by simp only[Rep])⟩
  |_=>exact q.elim
 |str i=>
  cases dy with
  |str j=>
   simp only[Rep] at r1 r2;subst r1;subst r2
   obtain⟨z,q⟩:=zW q
   exact .inr (.inl ⟨i,j,rfl,rfl,z,q _ F H (Ext.refl fh) (by simp only[Rep])⟩)
  |_=>exact q.elim
 |lst i=>
  cases dy with
  |lst j=>
   simp only[Rep] at r1 r2
   obtain⟨a,vs,rfl,e1,t1⟩:=r1
   obtain⟨b,ws,rfl,e2,t2⟩:=r2
   obtain⟨z,q⟩:=zW q
   refine .inr (.inr ⟨a,b,vs,ws,rfl,rfl,fh _ _ e1,fh _ _ e2,by rw[← t1.length,← t2.length];exact z,fun p hp=>q _ _ _ (Ext.new fh hp) ?_⟩)
   simp only[Rep]
   exact⟨p,vs++ws,rfl,zr,(t1.append t2).mono (zI (zv fh hp))⟩
  |_=>exact q.elim
 |_=>cases dy <;> exact q.elim⟩
noncomputable def jI:D→D→Rs D
 |.int i,.int j=>if (-(18446744073709551616)<i∧i<18446744073709551616)∨(-(18446744073709551616)<j∧j<18446744073709551616) then .ok (.int (i*j)) else .no
 |.lst i,.int k=>if k<16777216∧-16777216<k∧i.length*k.toNat≤sizeLine then .ok (.lst (List.replicate k.toNat i).flatten) else .no
 |_,_=>.no
theorem wt:OpD X (binaryOp .Mult) jI:=⟨_,op_mul.or JP,fun F H x y dx dy Q fh r1 r2 q=>by
 cases dx with
 |int i=>
  cases dy with
  |int j=>
   simp only[Rep] at r1 r2;subst r1;subst r2
   obtain⟨z,q⟩:=zW q
   refine .inl ⟨i,j,rfl,rfl,?_,q _ F H (Ext.refl fh) (by simp only[Rep])⟩
   unfold CMul
   rcases z with z|z
   ·exact .inl (by lia)
   ·exact .inr (by lia)
  |_=>exact q.elim
 |lst i=>
  cases dy with
  |int k=>
   simp only[Rep] at r1 r2
   obtain⟨a,vs,rfl,e1,t1⟩:=r1
   subst r2
   obtain⟨z,q⟩:=zW q
   refine .inr ⟨a,k,vs,rfl,rfl,fh _ _ e1,by lia,by lia,by rw[← t1.length];exact z.2.2,fun p hp=>q _ _ _ (Ext.new fh hp) ?_⟩
   simp only[Rep]
   exact⟨p,_,rfl,zr,(t1.rep k.toNat).mono (zI (zv fh hp))⟩
  |_=>exact q.elim
 |_=>cases dy <;> exact q.elim⟩
noncomputable def ZS(i j:Str):Bool:=!(Builtin.Str.occurrences j i 0 j.length 1).isEmpty
noncomputable def inD:D→D→Rs D
 |.str i,.str j=>.ok (.bl (ZS i j))
 |d,.lst xs=>if okD d=true∧okD (.lst xs)=true then .ok (.bl (xs.any fun y=>xR y d)) else .no
 |d,.tup xs=>if okD d=true∧okD (.tup xs)=true then .ok (.bl (xs.any fun y=>xR y d)) else .no
 |_,_=>.no
noncomputable def JX(r:D):Rs D:=match r with
 |.bl b=>.ok (.bl (!b))
 |_=>.no
noncomputable def x9(d e:D):Rs D:=(inD d e).bind JX
theorem jL:∀xs:List D,toPys xs=xs.map xj:=by
 intro l_
 induction l_ with
 |nil=>
  exact rfl
 |cons d r ih_=>
  rw[toPys,ih_,map_cons]
theorem wW(xs:List D)(d:D):((toPys xs).any fun y=>PyData.eqv y (xj d))=xs.any fun y=>xR y d:=by
 rw[jL,List.any_map];rfl
noncomputable def rInD(K:Frag)(neg:Bool):R2:=fun x y H Q=>∃F d e xs,Same F H∧Rep K F d x∧Rep K F e y∧okD d=true∧okD e=true∧(e=.lst xs∨e=.tup xs)∧Q (.bl (if neg then !(xs.any fun y=>xR y d) else xs.any fun y=>xR y d)) H
theorem XM(hu:X.A.units+128<cLine):OpR X (compareOp .In) (rInD X.K false):=by
 intro pins s σ H x y v u Q I rx ry h
 obtain⟨F,d,e,xs,fh,r1,r2,o1,o2,he,q⟩:=h
 obtain⟨p1,c1,e1⟩:=xU o1
 obtain⟨p2,c2,e2⟩:=xU o2
 obtain⟨as,h1⟩:=xb I fh d r1 rx p1
 obtain⟨bs,h2⟩:=xb I fh e r2 ry p2
 rcases he with rfl|rfl
 ·rw[xj] at h2 c2 e2
  refine SeqAt.in_list_reads h2 h1 (by simpa only[PyData.canLay0] using c2) c1 (by lia) ⟨.bl _,H,I,rfl,?_⟩
  rw[wW];exact q
 ·rw[xj] at h2 c2 e2
  refine SeqAt.in_tuple_reads h2 h1 (by simpa only[PyData.canLay0] using c2) c1 (by lia) ⟨.bl _,H,I,rfl,?_⟩
  rw[wW];exact q
theorem Zo(hu:X.A.units+128<cLine):OpR X (compareOp .NotIn) (rInD X.K true):=by
 intro pins s σ H x y v u Q I rx ry h
 obtain⟨F,d,e,xs,fh,r1,r2,o1,o2,he,q⟩:=h
 obtain⟨p1,c1,e1⟩:=xU o1
 obtain⟨p2,c2,e2⟩:=xU o2
 obtain⟨as,h1⟩:=xb I fh d r1 rx p1
 obtain⟨bs,h2⟩:=xb I fh e r2 ry p2
 rcases he with rfl|rfl
 ·rw[xj] at h2 c2 e2
  refine SeqAt.notIn_list_reads h2 h1 (by simpa only[PyData.canLay0] using c2) c1 (by lia) ⟨.bl _,H,I,rfl,?_⟩
  rw[wW];exact q
 ·rw[xj] at h2 c2 e2
  refine SeqAt.notIn_tuple_reads h2 h1 (by simpa only[PyData.canLay0] using c2) c1 (by lia) ⟨.bl _,H,I,rfl,?_⟩
  rw[wW];exact q
theorem jc(hu:X.A.units+128<cLine):OpD X (compareOp .In) inD:=⟨_,op_in_str.or (XM hu),fun F H x y dx dy Q fh r1 r2 q=>by
 cases dy with
 |lst xs=>
  have q':Ok X (if okD dx=true∧okD (.lst xs)=true then .ok (.bl (xs.any fun y=>xR y dx)) else .no) (Ev X.K F H Q):=by cases dx <;> exact q
  obtain⟨z,q⟩:=zW q'
  exact .inr ⟨F,dx,_,xs,fh,r1,r2,z.1,z.2,.inl rfl,q _ F H (Ext.refl fh) (by simp only[Rep];rfl)⟩
 |tup xs=>
  have q':Ok X (if okD dx=true∧okD (.tup xs)=true then .ok (.bl (xs.any fun y=>xR y dx)) else .no) (Ev X.K F H Q):=by cases dx <;> exact q
  obtain⟨z,q⟩:=zW q'
  exact .inr ⟨F,dx,_,xs,fh,r1,r2,z.1,z.2,.inr rfl,q _ F H (Ext.refl fh) (by simp only[Rep];rfl)⟩
 |str j=>
  cases dx with
  |str i=>
   simp only[Rep] at r1 r2;subst r1;subst r2
   exact .inl ⟨i,j,rfl,rfl,q _ F H (Ext.refl fh) (by simp only[Rep,ZS])⟩
  |_=>exact q.elim
 |_=>cases dx <;> exact q.elim⟩
theorem jV(hu:X.A.units+128<cLine):OpD X (compareOp .NotIn) x9:=⟨_,op_notin_str.or (Zo hu),fun F H x y dx dy Q fh r1 r2 q=>by
 have q:=Ok.bind q
 cases dy with
 |lst xs=>
  have q':Ok X (if okD dx=true∧okD (.lst xs)=true then .ok (.bl (xs.any fun y=>xR y dx)) else .no) (fun r=>Ok X (JX r) (Ev X.K F H Q)):=by cases dx <;> exact q
  obtain⟨z,q⟩:=zW q'
  exact .inr ⟨F,dx,_,xs,fh,r1,r2,z.1,z.2,.inl rfl,q _ F H (Ext.refl fh) (by simp only[Rep];rfl)⟩
 |tup xs=>
  have q':Ok X (if okD dx=true∧okD (.tup xs)=true then .ok (.bl (xs.any fun y=>xR y dx)) else .no) (fun r=>Ok X (JX r) (Ev X.K F H Q)):=by cases dx <;> exact q
  obtain⟨z,q⟩:=zW q'
  exact .inr ⟨F,dx,_,xs,fh,r1,r2,z.1,z.2,.inr rfl,q _ F H (Ext.refl fh) (by simp only[Rep];rfl)⟩
 |str j=>
  cases dx with
  |str i=>
   simp only[Rep] at r1 r2;subst r1;subst r2
   exact .inl ⟨i,j,rfl,rfl,q _ F H (Ext.refl fh) (by simp only[Rep,ZS])⟩
  |_=>exact q.elim
 |_=>cases dx <;> exact q.elim⟩
noncomputable def isN:D→Rs Bool
 |.non=>.ok true
 |.raw _=>.no
 |.exc _=>.no
 |.dct _ _=>.no
 |_=>.ok false
noncomputable def ZB(d e:D):Rs D:=match e with
 |.non=>(isN d).bind fun b=>.ok (.bl (!b))
 |_=>.no
theorem US{F:Hp}{d:D}{v:V}{P:Bool→Prop}(r:Rep X.K F d v)(h:Ok X (isN d) P):P (decide (v=.non)):=by
 cases d with
 |non=>simp only[Rep] at r;subst r;exact h
 |bl b=>simp only[Rep] at r;subst r;exact h
 |int b=>simp only[Rep] at r;subst r;exact h
 |str b=>simp only[Rep] at r;subst r;exact h
 |lst b=>simp only[Rep] at r;obtain⟨a,vs,rfl,_⟩:=r;exact h
 |tup b=>simp only[Rep] at r;obtain⟨a,vs,rfl,_⟩:=r;exact h
 |scr b=>simp only[Rep] at r;obtain⟨a,rfl,_⟩:=r;exact h
 |raw b=>exact h.elim
 |exc b=>exact h.elim
 |dct _ _=>exact h.elim
theorem XI:OpD X (compareOp .IsNot) ZB:=⟨_,Uo,fun F H x y dx dy Q fh r1 r2 q=>by
 cases dy with
 |non=>simp only[Rep] at r2;have q':Ok X ((isN dx).bind fun b=>Rs.ok (D.bl (!b))) (Ev X.K F H Q):=q;have q2:=US (P:=fun b=>Ok X (Rs.ok (D.bl (!b))) (Ev X.K F H Q)) r1 (Ok.bind q');exact⟨r2,q2 _ F H (Ext.refl fh) (by simp only[Rep])⟩
 |_=>exact q.elim⟩
noncomputable def vO(fa:FE):FE:=fun τ=>(fa τ).bind fun d=>match d with
 |.int i=>.ok (.int (-i))
 |_=>.no
theorem uE{a:Expr}{pos:Pos}{fa:FE}(ha:PDE X a fa):PDE X (.UnaryOp .USub a pos) (vO fa):=
 PE.imp (pe_un Jq ha) fun σ H Q z_=>by
  obtain⟨F,τ,R,h⟩:=z_
  refine tE.of R h.bind fun d v F1 H1 g x R1 r=>?_
  cases d with
  |int i=>simp only[Rep] at r;exact⟨i,r,g _ F1 H1 x (by simp only[Rep])⟩
  |_=>exact g.elim
end
noncomputable def z7(env:Env)(cs:List (Str×Addr))(y:Str×NameKind):List (Str×Addr):=if y.2==NameKind.free then (y.1,(env.cells.lookup y.1).getD 0)::cs else cs
noncomputable def vq(scope:Scope)(env:Env):List (Str×Addr):=scope.names.foldl (z7 env) []
theorem wa{scope:Scope}{env:Env}(h:∀y∈scope.names,y.2=.free→(env.cells.lookup y.1).isSome=true):closureFor scope env=pure (vq scope env):=by
 unfold closureFor vq
 generalize scope.names=names at h
 have gen:∀(cs:List (Str×Addr)),(forIn names cs fun x r=>(do
   if (x.2==NameKind.free)=true then do
    let c ← cellOf env x.1
    pure PUnit.unit
    pure (ForInStep.yield ((x.1,c)::r))
   else do
    pure PUnit.unit
    pure (ForInStep.yield r)):Sem (List (Str×Addr)))=pure (names.foldl (z7 env) cs):=by
  induction names with
  |nil=>intro cs;rfl
  |cons y r ih=>
   intro cs
   rw[List.forIn_cons,foldl_cons]
   by_cases hk:y.2=.free
   ·obtain⟨c,hc⟩:=Option.isSome_iff_exists.mp (h y mem_cons_self hk)
    have e:z7 env cs y=(y.1,c)::cs:=by simp[z7,hk,hc]
    rw[e,← ih (fun z hz=>h z (mem_cons_of_mem _ hz))]
    simp only[hk,beq_self_eq_true,if_true,cellOf,hc]
    rfl
   ·have hb:(y.2==NameKind.free)=false:=by simpa using hk
    have e:z7 env cs y=cs:=by simp[z7,hb]
    rw[e,← ih (fun z hz=>h z (mem_cons_of_mem _ hz))]
    simp only[hb,Bool.false_eq_true,if_false]
    rfl
 show((forIn names ([]:List (Str×Addr)) fun x r=>(do
   if (x.2==NameKind.free)=true then do
    let c ← cellOf env x.1
    pure PUnit.unit
    pure (ForInStep.yield ((x.1,c)::r))
   else do
    pure PUnit.unit
    pure (ForInStep.yield r)):Sem (List (Str×Addr))) >>= fun s=>pure s)=_
 rw[gen []]
 rfl
theorem up{env:Env}{x:Str}:∀{names:List (Str×NameKind)} {cs:List (Str×Addr)} {c:Addr},(names.foldl (z7 env) cs).lookup x=some c→cs.lookup x=some c∨(∃y∈names,y.1=x∧y.2=.free∧c=(env.cells.lookup x).getD 0)
 |[],cs,c,h=>.inl h
 |y::r,cs,c,h=>by
  rw[foldl_cons] at h
  rcases up h with q|⟨z,hz,e⟩
  ·by_cases hk:y.2=.free
   ·have e:z7 env cs y=(y.1,(env.cells.lookup y.1).getD 0)::cs:=by simp[z7,hk]
    rw[e,lookup_cons] at q
    by_cases hx:x=y.1
    ·subst hx
     simp at q
     exact .inr ⟨y,mem_cons_self,rfl,hk,q.symm⟩
    ·have hb:(x==y.1)=false:=by simpa using hx
     rw[hb] at q
     exact .inl q
   ·have hb:(y.2==NameKind.free)=false:=by simpa using hk
    have e:z7 env cs y=cs:=by simp[z7,hb]
    rw[e] at q
    exact .inl q
  ·exact .inr ⟨z,mem_cons_of_mem _ hz,e⟩
theorem jv{env:Env}{x:Str}:∀{names:List (Str×NameKind)} {cs:List (Str×Addr)},((∃y∈names,y.1=x∧y.2=.free)∨∃c,cs.lookup x=some c)→∃c,(names.foldl (z7 env) cs).lookup x=some c
 |[],cs,h=>by
  rcases h with ⟨y,hy,_⟩|h
  ·cases hy
  ·exact h
 |y::r,cs,h=>by
  rw[foldl_cons]
  refine jv ?_
  by_cases hk:y.2=.free
  ·have e:z7 env cs y=(y.1,(env.cells.lookup y.1).getD 0)::cs:=by simp[z7,hk]
   rw[e]
   by_cases hx:x=y.1
   ·subst hx;exact .inr ⟨(env.cells.lookup y.1).getD 0,by rw[lookup_cons];simp⟩
   ·have hb:(x==y.1)=false:=by simpa using hx
    rcases h with ⟨z,hz,e1,e2⟩|⟨c,hc⟩
    ·rcases mem_cons.mp hz with rfl|hz
     ·exact absurd e1.symm hx
     ·exact .inl ⟨z,hz,e1,e2⟩
    ·exact .inr ⟨c,by rw[lookup_cons,hb];exact hc⟩
  ·have hb:(y.2==NameKind.free)=false:=by simpa using hk
   have e:z7 env cs y=cs:=by simp[z7,hb]
   rw[e]
   rcases h with ⟨z,hz,e1,e2⟩|h
   ·rcases mem_cons.mp hz with rfl|hz
    ·exact absurd e2 hk
    ·exact .inl ⟨z,hz,e1,e2⟩
   ·exact .inr h
noncomputable def _root_.L2.Cx.comp(X:Cx)(scope:Scope)(N:List Str)(s:Shared)(H:Hp)(C:Addr)(fp:List Addr):Cx:=
 { prog:=X.prog,w:=X.w,K:=X.K,mg:=X.mg,base:=X.base,A:=X.A,N:=N,s₀:=s,H₀:=H,env:=compEnvC scope (vq scope X.env) C X.env,outer:=X.stack,stack:=X.stack,ex:=fp,fn:=fun _=>false,calm:=X.calm,pn:=[],xe:=fun _ _=>False }
structure y0(X:Cx)(scope:Scope):Prop where
 kind:scope.kind=.function
 nocell:∀y∈scope.names,y.2≠.cell
 locs:∀y∈scope.names,y.2=.local→scope.names.lookup y.1=some .local
 free:∀y∈scope.names,y.2=.free→X.env.kindOf y.1=some .cell∨X.env.kindOf y.1=some .free
theorem xE{env:Env}:∀{names:List (Str×NameKind)} {x:Str},((names.map fun (n,k)=>if (k==NameKind.free&&env.scope.kind == .function&&env.kindOf n==some .cell) then (n,NameKind.cell) else (n,k)).lookup x=some .cell ∨
  (names.map fun (n,k)=>if (k==NameKind.free&&env.scope.kind == .function&&env.kindOf n==some .cell) then (n,NameKind.cell) else (n,k)).lookup x=some .free)→(∀y∈names,y.2≠.cell)→∃y∈names,y.1=x∧y.2=.free
 |[],_,h,_=>by rcases h with h|h <;> simp at h
 | (n,k)::r,x,h,hc=>by
  have hr:∀y∈r,y.2≠.cell:=fun y hy=>hc y (mem_cons_of_mem _ hy)
  rw[map_cons] at h
  by_cases hx:x=n
  ·subst hx
   by_cases hk:k=.free
   ·exact⟨_,mem_cons_self,rfl,hk⟩
   ·have hb:(k==NameKind.free)=false:=by simpa using hk
    have hck:k≠.cell:=hc (x,k) mem_cons_self
    simp only[hb,Bool.false_and,Bool.false_eq_true,if_false,lookup_cons,beq_self_eq_true] at h
    rcases h with h|h
    ·exact absurd (Option.some.inj h) hck
    ·exact absurd (Option.some.inj h) hk
  ·have hb:(x==n)=false:=by simpa using hx
   have step:∀q:Str×NameKind,q.1=n→((q::(r.map fun (n,k)=>if (k==NameKind.free&&env.scope.kind == .function&&env.kindOf n==some .cell) then (n,NameKind.cell) else (n,k))).lookup x)=((r.map fun (n,k)=>if (k==NameKind.free&&env.scope.kind == .function&&env.kindOf n==some .cell) then (n,NameKind.cell) else (n,k)).lookup x):=fun q hq=>by
    obtain⟨q1,q2⟩:=q
    simp only at hq
    subst hq
    rw[lookup_cons,hb]
   have h':((r.map fun (n,k)=>if (k==NameKind.free&&env.scope.kind == .function&&env.kindOf n==some .cell) then (n,NameKind.cell) else (n,k)).lookup x=some .cell∨(r.map fun (n,k)=>if (k==NameKind.free&&env.scope.kind == .function&&env.kindOf n==some .cell) then (n,NameKind.cell) else (n,k)).lookup x=some .free):=by
    rcases h with h|h
    ·left;exact(step _ (by show(if (k==NameKind.free&&env.scope.kind == .function&&env.kindOf n==some .cell)=true then (n,NameKind.cell) else (n,k)).1=n;split <;> rfl)).symm.trans h
    ·right;exact(step _ (by show(if (k==NameKind.free&&env.scope.kind == .function&&env.kindOf n==some .cell)=true then (n,NameKind.cell) else (n,k)).1=n;split <;> rfl)).symm.trans h
   obtain⟨y,hy,e⟩:=xE h' hr
   exact⟨y,mem_cons_of_mem _ hy,e⟩
theorem wp{env:Env}:∀{names:List (Str×NameKind)} {x:Str},names.lookup x=some .free→¬ (names.map fun (n,k)=>if (k==NameKind.free&&env.scope.kind == .function&&env.kindOf n==some .cell) then (n,NameKind.cell) else (n,k)).lookup x=some .local
 |[],_,h=>by simp at h
 | (n,k)::r,x,h=>by
  rw[map_cons]
  show ¬ List.lookup x ((if (k==NameKind.free&&env.scope.kind == .function&&env.kindOf n==some .cell)=true then (n,NameKind.cell) else (n,k))::_)=_
  rw[lookup_cons] at h
  by_cases hx:x=n
  ·subst hx
   simp only[beq_self_eq_true] at h
   have hk:k=.free:=Option.some.inj h
   subst hk
   split <;> simp[lookup_cons]
  ·have hb:(x==n)=false:=by simpa using hx
   rw[hb] at h
   split
   ·rw[lookup_cons,hb];exact wp h
   ·rw[lookup_cons,hb];exact wp h
section
variable{X:Cx}{scope:Scope}{N':List Str}
theorem ug(S:y0 X scope)(ok:X.Ok){x:Str}{c:Addr}(h:(vq scope X.env).lookup x=some c):X.env.cells.lookup x=some c:=by
 rcases up h with q|⟨y,hy,e1,e2,e3⟩
 ·simp at q
 ·subst e1
  obtain⟨c',hc'⟩:=ok.has y.1 (S.free y hy e2)
  rw[hc'] at e3 ⊢
  rw[e3];rfl
theorem Ym{pins:List (Addr×Obj)}{σ σ':St}{H:Hp}{s:Shared}{h1:Heap}{fp:List Addr}{t:Nat}(S:y0 X scope)(I:Inv X pins σ H s)(hfp:∀b∈fp,vU X pins H b)(hlt:∀b∈fp,b<s.heap.objs.size)
  (hn:h1.Ns s.heap.objs.size fun _=>none) (hsb:∀b o,s.heap.get? b=some o→h1.get? b=some o) (hl:σ'.length=N'.length)
  (hσ:∀(i:Nat) (v:V),σ'[i]?=some (some v)→∃(x:Str) (j:Nat),N'[i]?=some x∧X.N[j]?=some x∧σ[j]?=some (some v)∧scope.names.lookup x=some .free) :
  Inv (X.comp scope N' s H s.heap.objs.size fp) [] σ' H { s with heap:=h1,toks:=t }:=by
 have hH:H s.heap.objs.size=none:=I.hok.fresh (le_refl _)
 have cl:∀{x c},(vq scope X.env).lookup x=some c→X.env.cells.lookup x=some c:=fun h=>ug S I.ok h
 have kept:∀{c v},s.heap.IsCell c v→h1.IsCell c v:=fun ⟨o,e,d⟩=>⟨o,hsb _ o e,d⟩
 refine⟨⟨I.ok.mod,S.kind,I.ok.glob,I.ok.blt,le_refl _,fun x y c e1 e2=>I.ok.inj x y c (cl e1) (cl e2),fun x hx=>?_,fun x c hf _=>absurd hf (by simp[Cx.comp]),I.ok.hd,I.ok.frames,.inl rfl,fun b hb=>?_,I.bs,le_trans I.ok.bsz I.sz,fun b o e hb=>?_,fun b hb hs=>?_,I.stack,I.stkFree⟩,
  I.os.symm ▸ rfl,I.bare,Un.kept hsb,⟨_,hn,fun i x v e1 e2 e3=>?_⟩,fun x c e=>?_,hH,fun x c e=>I.freeC x c (cl e),fun p hp=>absurd (show p∈([]:List (Addr×Obj)) from hp) (by simp),I.hok.kept hsb,hl⟩
 ·have hx:(relabel scope X.env).names.lookup x=some .cell∨(relabel scope X.env).names.lookup x=some .free:=hx
  exact jv (.inl (xE hx S.nocell))
 ·have hb:b∈fp:=hb
  refine⟨ne_of_lt (hlt b hb),fun x c e=>(hfp b hb).2.2.2.2.1 x c (cl e)⟩
 ·have hb:b∈fp:=hb
  rcases (hfp b hb).2.2.2.1 with z|z
  ·exact I.ok.noex b o e z
  ·exact absurd (lt_of_lt_of_le (Heap.lt_size e) (le_trans I.ok.bsz z)) (lt_irrefl _)
 ·have hb:b∈fp:=hb
  obtain⟨_,f1,f2,_⟩:=hfp b hb
  rcases mem_cons.mp (I.stkSub b hs) with z|z
  ·exact f1 z
  ·exact f2 z
 ·obtain⟨x',j,e4,e5,e6,e9⟩:=hσ i v e2
  have hy:=PySem.mem_of_lookup e9
  have e1':N'[i]?=some x:=e1
  rw[e1'] at e4;cases e4
  have kd:=S.free _ hy rfl
  obtain⟨m,hm,hl⟩:=I.loc
  obtain⟨u,ru,lk⟩:=hl j x v e5 e6 (kd.elim (fun z=>.inr (.inl z)) fun z=>.inr (.inr z))
  refine⟨u,ru,?_⟩
  rcases lk with ⟨z,_⟩|⟨z,c,hc,hcell⟩
  ·rcases kd with k|k <;> rw[k] at z <;> cases z
  ·obtain⟨c',hc'⟩:=jv (env:=X.env) (names:=scope.names) (cs:=[]) (x:=x) (.inl ⟨_,hy,rfl,rfl⟩)
   have:=cl hc'
   rw[hc] at this;cases this
   have e3':(relabel scope X.env).names.lookup x=some .local∨(relabel scope X.env).names.lookup x=some .cell∨(relabel scope X.env).names.lookup x=some .free:=e3
   rcases e3' with q|q|q
   ·exact absurd q (wp e9)
   ·exact .inr ⟨.inl q,c,hc',kept hcell⟩
   ·exact .inr ⟨.inr q,c,hc',kept hcell⟩
 ·obtain⟨v,z⟩:=I.cell x c (cl e)
  exact⟨v,kept z⟩
end
theorem X1{prog:Program}{w:World}{A:Around}{R:Result→Shared→Prop}{s:Shared}{elt target iter:Expr}{ifs:List Expr}{scope:Scope}{pos:Pos}{it acc:Value}{env:Env}(I:Nat→Shared→Prop)
  (turn:∀n s,I n s→wpAny (model prog w) A (pyNext it) (fun r s₁=>match r with
   |none=>R (.ok .next) s₁
   |some v=>wpAny (model prog w) A (letOwnedTupleGo target it v) (fun _ s0=>wpAny (model prog w) A (assign target env v) (fun _ s₂=>
     wpAny (model prog w) A (forIn ifs true fun c r=>if r=true then do let ok ← isTrue c env (eval c env);pure (ForInStep.yield ok) else pure (ForInStep.yield r)) (fun ok s₃=>
      if ok=true then wpAny (model prog w) A (eval elt env) (fun x s₄=>
       wpAny (model prog w) A (call (.builtin "list.append") [acc,x]) (fun _ s₅=>∃m,m<n∧I m s₅) (fun _ _=>False) s₄) (fun _ _=>False) s₃
      else ∃m,m<n∧I m s₃) (fun _ _=>False) s₂) (fun _ _=>False) s0) (fun _ _=>False) s₁) (fun _ _=>False) s)
  (n:Nat) (h:I n s) :
  codeAny (model prog w) A (.compLoop (.ListComp elt [⟨target,iter,ifs,0⟩] scope pos) 0 it acc env) R s:=by
 refine codeAny_loop rfl I (fun n s hI=>?_) n h
 show wpAny _ A ((compTurn (.ListComp elt [⟨target,iter,ifs,0⟩] scope pos) 0 it acc env).onRaise (fun x=>do noteFrame x env;theTreesLotGoes x)) _ _ s
 refine wpAny_noted ?_
 rw[compTurn_list]
 refine wpAny_bind (wpAny_standAt (wpAny_bind (wpAny_mono (turn n s hI) (fun r s₁ h₁=>?_) fun _ _ h'=>h'.elim)))
 cases r with
 |none=>exact wpAny_pure h₁
 |some v=>
  refine wpAny_bind (wpAny_mono h₁ (fun _ s0 h0=>?_) fun _ _ h'=>h'.elim)
  refine wpAny_bind (wpAny_mono h0 (fun _ s₂ h₂=>wpAny_bind (wpAny_mono h₂ (fun ok s₃ h₃=>?_) fun _ _ h'=>h'.elim)) fun _ _ h'=>h'.elim)
  cases ok with
  |false=>exact wpAny_pure ⟨rfl,h₃⟩
  |true=>
   exact wpAny_bind (wpAny_bind (wpAny_mono h₃ (fun x s₄ h₄=>wpAny_bind (wpAny_mono h₄ (fun _ s₅ h₅=>wpAny_pure (wpAny_pure ⟨rfl,h₅⟩)) fun _ _ h'=>h'.elim)) fun _ _ h'=>h'.elim))
theorem Yb{M:Model}{A:Around}{env:Env}{Q:Bool→Shared→Prop}{E:Value→Shared→Prop}{s:Shared}(h:Q true s) :
  wpAny M A (forIn ([]:List Expr) true fun c r=>if r=true then do let ok ← isTrue c env (eval c env);pure (ForInStep.yield ok) else pure (ForInStep.yield r)) Q E s:=wpAny_pure h
theorem WU{M:Model}{A:Around}{env:Env}{Q:Bool→Shared→Prop}{E:Value→Shared→Prop}{s:Shared}{c:Expr}(h:wpAny M A (isTrue c env (eval c env)) Q E s) :
  wpAny M A (forIn [c] true fun c r=>if r=true then do let ok ← isTrue c env (eval c env);pure (ForInStep.yield ok) else pure (ForInStep.yield r)) Q E s:=by
 rw[List.forIn_cons]
 simp only[if_true]
 refine wpAny_bind (wpAny_bind (wpAny_mono h (fun b s' q=>wpAny_pure ?_) fun _ _ e=>e))
 exact wpAny_pure q
noncomputable def PTs(Y:Cx)(ifs:List Expr)(t:TT):Prop:=∀(pins:List (Addr×Obj)) (s:Shared) (σ:St) (H:Hp) (Q:Bool→Hp→Prop),Inv Y pins σ H s→t σ H Q →
 wpAny (model Y.prog Y.w) Y.A (forIn ifs true fun c r=>if r=true then do let ok ← isTrue c Y.env (eval c Y.env);pure (ForInStep.yield ok) else pure (ForInStep.yield r)) (TP Y pins σ Q) Y.xe s
theorem V2{Y:Cx}:PTs Y [] (fun _ H Q=>Q true H):=fun pins s σ H Q I h=>Yb ⟨H,I,h⟩
theorem V1{Y:Cx}{c:Expr}{t:TT}(h:PT Y c t):PTs Y [c] t:=fun pins s σ H Q I q=>WU (h pins s σ H Q I q)
noncomputable def Wf(s0:St→St)(wi:TI)(g:TG)(ti:TT)(te:TE):TE:=fun σ H Q=>wi σ H fun J H1=>∀acc,H1 acc=none→∃W:Nat→Nat→St→Hp→Prop,(∃m,W 0 m (s0 σ) (upd H1 acc (.lst [])))∧∀i m σ1 H,W i m σ1 H →
 (J.stop i H∧Q (.ref acc) H)∨(J.go i H∧∀x H',J.yld i H x H'→g x σ1 H' fun σ2 H2=>ti σ2 H2 fun b H3=>
  if b=true then te σ2 H3 fun y H4=>∃ys,H4 acc=some (.lst ys)∧ys.length<sizeLine∧∃m',m'<m∧W (i+1) m' σ2 (upd H4 acc (.lst (ys++[y]))) else ∃m',m'<m∧W (i+1) m' σ2 H3)
section
variable{X:Cx}{scope:Scope}{N':List Str}{tg iter elt:Expr}{ifs:List Expr}{pos:Pos}{wi:TI}{g:TG}{ti:TT}{te:TE}{s0:St→St}
theorem Xk{P:Program}{w:World}{H:Hp}{h h':Heap}{C:Addr}(ok:HOk P w H h)(hC:H C=none)(k:∀b o,b≠C→h.get? b=some o→h'.get? b=some o):HOk P w H h':=fun b u e=>by
 refine(ok b u e).stay (fun c v hc q=>k c v ?_ q) (fun _ q=>q) fun _ _ q=>q
 rintro rfl
 rcases hc with z|z
 ·subst z;rw[hC] at e;cases e
 ·rw[hC] at z;cases z
theorem ju{pins:List (Addr×Obj)}{σ:St}{H:Hp}{s:Shared}{QQ:V→Hp→Prop}{J:It}{fp:List Addr}{it acc:Addr}{tn:Nat→Heap→Prop}{RR:Addr→Result→Shared→Prop}{E:Value→Shared→Prop}{W:Nat→Nat→St→Hp→Prop}{m0:Nat}
  (S:y0 X scope) (hc:X.calm=true) (hl:(s0 σ).length=N'.length)
  (hσ:∀(i:Nat) (v:V),(s0 σ)[i]?=some (some v)→∃(x:Str) (j:Nat),N'[i]?=some x∧X.N[j]?=some x∧σ[j]?=some (some v)∧scope.names.lookup x=some .free)
  (hg:∀s H C fp,PG (X.comp scope N' s H C fp) tg g) (ht:∀s H C fp,PTs (X.comp scope N' s H C fp) ifs ti) (he:∀s H C fp,PE (X.comp scope N' s H C fp) elt te)
  (I:Inv X pins σ H s) (T:ZM X.prog X.w X.K tg J fp it tn) (st:tn 0 s.heap) (hfp:∀b∈fp,vU X pins H b) (hlt:∀b∈fp,b<s.heap.objs.size) (hacc:acc<s.heap.objs.size)
  (w0:W 0 m0 (s0 σ) H) (turn:∀i m σ1 H,W i m σ1 H→(J.stop i H∧QQ (.ref acc) H)∨(J.go i H∧∀x H',J.yld i H x H'→g x σ1 H' fun σ2 H2=>ti σ2 H2 fun b H3=>
    if b=true then te σ2 H3 fun y H4=>∃ys,H4 acc=some (.lst ys)∧ys.length<sizeLine∧∃m',m'<m∧W (i+1) m' σ2 (upd H4 acc (.lst (ys++[y]))) else ∃m',m'<m∧W (i+1) m' σ2 H3))
  (hRR:∀s',(∃m,s'.heap.Ns s.heap.objs.size m)→(∀h',Heap.SameBut s.heap.objs.size s'.heap h'→EP X pins σ (fun v H'=>QQ v H'∧H' s.heap.objs.size=none) (.ref acc) { s' with heap:=h' })→RR s.heap.objs.size (.ok .next) s') :
  wpAny (model X.prog X.w) X.A (newFunctionEnv scope X.env.globals (vq scope X.env) [] X.env.qual none .none (some X.env)) (fun cenv s₄=>
   codeAny (model X.prog X.w) X.A (.compStart (.ListComp elt [⟨tg,iter,ifs,0⟩] scope pos) 0 (.ref it) (.ref acc) { cenv with scope:=relabel scope X.env }) (RR cenv.locals) s₄) E s:=by
 refine wpAny_newFunctionEnv S.nocell (by intro y hy;simp at hy) (fun h1 hns hsb=>?_) S.kind
 have keep3:∀b o,s.heap.get? b=some o→h1.get? b=some o:=fun b o e=>hsb.extBut b o (ne_of_lt (Heap.lt_size e)) (get?_push_of_some _ e)
 have Y0:Inv (X.comp scope N' s H s.heap.objs.size fp) [] (s0 σ) H { s with heap:=h1,toks:=s.toks+([]:List (Str×Value)).length }:=Ym S I hfp hlt hns keep3 hl hσ
 have fpY:∀{H':Hp},(∀b∈fp,H' b=none)→∀b∈fp,vU (X.comp scope N' s H s.heap.objs.size fp) [] H' b:=fun {H'} hn b hb=>by
  obtain⟨f0,f1,f2,f3,f4,f5⟩:=hfp b hb
  refine⟨hn b hb,ne_of_lt (hlt b hb),fun z=>?_,.inl hb,fun x c e=>f4 x c (ug S I.ok e),fun p hp=>absurd (show p∈([]:List (Addr×Obj)) from hp) (by simp)⟩
  rcases mem_cons.mp (I.stkSub b z) with q|q
  ·exact f1 q
  ·exact f2 q
 have st1:tn 0 h1:=T.keep _ _ _ st fun b hb o e=>keep3 b o e
 have loop:∀s3:Shared,s3 = { s with heap:=h1,toks:=s.toks+([]:List (Str×Value)).length } →
   codeAny (model X.prog X.w) X.A (.compLoop (.ListComp elt [⟨tg,iter,ifs,0⟩] scope pos) 0 (.ref it) (.ref acc) (X.comp scope N' s H s.heap.objs.size fp).env) (RR s.heap.objs.size) s3:=by
  rintro s3 rfl
  refine X1 (fun n s'=>∃i σ' H',Inv (X.comp scope N' s H s.heap.objs.size fp) [] σ' H' s'∧tn i s'.heap∧(∀b∈fp,H' b=none)∧W i n σ' H') ?_ m0 ⟨0,s0 σ,H,Y0,st1,fun b hb=>(hfp b hb).1,w0⟩
  rintro n s4 ⟨i,σ4,H4,I4,st4,fr4,w4⟩
  rcases turn i n σ4 H4 w4 with ⟨stop,qn⟩|⟨go,step⟩
  ·refine thn (T.done (X.comp scope N' s H s.heap.objs.size fp) rfl rfl rfl hc i [] s4 σ4 H4 _ I4 (fpY fr4) st4 stop) fun r s5 z_=>?_
   obtain⟨hr,I5⟩:=z_
   subst hr
   obtain⟨m5,n5,_⟩:=id I5.loc
   have hC:H4 s.heap.objs.size=none:=I5.free
   refine hRR s5 ⟨m5,n5⟩ fun h' sb=>⟨.ref acc,H4,?_,rfl,qn,hC⟩
   refine I.call' (s':={ s5 with heap:=h' }) (ch:=fp) I5.os ⟨fun b o e n hb hx=>?_,fun b o e n hb hx=>?_,fun b o e n hx=>I5.base.free b o e n hx,fun b o e hx=>?_,I5.base.tups,I5.base.frzs,I5.base.tbls⟩ (Xk I5.hok hC fun b o hb e=>(sb.2 b hb).trans e) I5.bare fun b hb=>?_
   ·exact(sb.2 b (ne_of_lt (Heap.lt_size e))).trans (I5.base.keep b o e n hb hx)
   ·obtain⟨sl,q⟩:=I5.base.slot b o e n hb hx
    exact⟨sl,(sb.2 b (ne_of_lt (Heap.lt_size e))).trans q⟩
   ·obtain⟨o',q⟩:=I5.base.there b o e hx
    exact⟨o',(sb.2 b (ne_of_lt (Heap.lt_size e))).trans q⟩
   ·obtain⟨f0,f1,f2,f3,f4,f5⟩:=hfp b hb
    exact⟨f3,f1,f4,f5⟩
  ·refine thn (T.item (X.comp scope N' s H s.heap.objs.size fp) rfl rfl rfl hc i [] s4 σ4 H4 _ I4 (fpY fr4) st4 go) fun r s5 z_=>?_
   obtain⟨u,hr,h5⟩:=z_
   subst hr
   refine thn h5 fun _ s6 z_=>?_
   obtain⟨x,H6,I6,r6,y6,st6,fr6⟩:=z_
   have I6':=I6.pinned (fpY fr6) (T.obj _ _ st6)
   refine thn (hg _ _ _ _ _ s6 σ4 H6 x u _ I6' r6 (step x H6 y6)) fun _ s7 z_=>?_
   obtain⟨σ7,H7,I7,q7⟩:=z_
   refine thn (ht _ _ _ _ _ s7 σ7 H7 _ I7 q7) fun ok s8 z_=>?_
   obtain⟨H8,I8,q8⟩:=z_
   have again:∀{s9:Shared} {H9:Hp} {m':Nat},Inv (X.comp scope N' s H s.heap.objs.size fp) ([]++vd fp s6.heap) σ7 H9 s9→m'<n→W (i+1) m' σ7 H9→∃m,m<n∧∃i σ' H',Inv (X.comp scope N' s H s.heap.objs.size fp) [] σ' H' s9∧tn i s9.heap∧(∀b∈fp,H' b=none)∧W i m σ' H':=fun {s9 H9 m'} I9 hm w9=>by
    refine⟨m',hm,i+1,σ7,H9,I9.unpinned,T.keep _ _ _ st6 fun b hb o e=>(I9.pin (b,o) (mem_append_right _ (mem_append_right _ (yV hb e)))).1,fun b hb=>?_,w9⟩
    obtain⟨o,e,d⟩:=T.obj _ _ st6 b hb
    exact(I9.pin (b,o) (mem_append_right _ (mem_append_right _ (yV hb e)))).2.1
   cases ok with
   |false=>
    rw[if_neg (by simp)] at q8
    obtain⟨m',hm,w8⟩:=q8
    exact again I8 hm w8
   |true=>
    rw[if_pos rfl] at q8
    refine thn (he _ _ _ _ _ s8 σ7 H8 _ I8 q8) fun y s9 z_=>?_
    obtain⟨z,H9,I9,r9,ys,e9,l9,m',hm,w9⟩:=z_
    refine thn (v9 _ s9 σ7 H9 (.ref acc) [z] (.ref acc) [y] (fun _ H'=>H'=upd H9 acc (.lst (ys++[z]))) I9 rfl (.cons r9 .nil) ⟨acc,ys,z,rfl,rfl,e9,l9,rfl⟩) fun _ s10 z_=>?_
    obtain⟨_,H10,I10,_,e10⟩:=z_
    subst e10
    exact again I10 hm w9
 exact codeAny_compStart_list (loop _ rfl) (T.self _ 0 _ _ _ st1 (loop _ rfl))
end
section
variable{X:Cx}{scope:Scope}{N':List Str}{tg iter elt:Expr}{ifs:List Expr}{pos:Pos}{wi:TI}{g:TG}{ti:TT}{te:TE}{s0:St→St}
theorem Vi{pins:List (Addr×Obj)}{σ:St}{H:Hp}{s:Shared}{J:It}{fp:List Addr}{it:Addr}{tn:Nat→Heap→Prop}(T:ZM X.prog X.w X.K tg J fp it tn)(st:tn 0 s.heap):∀b∈fp,b<s.heap.objs.size:=fun b hb=>by
 obtain⟨o,e,_⟩:=T.obj 0 _ st b hb
 exact Heap.lt_size e
theorem Ud(S:y0 X scope)(hc:X.calm=true)(hl:∀σ:St,σ.length=X.N.length→(s0 σ).length=N'.length)
  (hσ:∀(σ:St) (i:Nat) (v:V),(s0 σ)[i]?=some (some v)→∃(x:Str) (j:Nat),N'[i]?=some x∧X.N[j]?=some x∧σ[j]?=some (some v)∧scope.names.lookup x=some .free)
  (hi:PI X tg iter wi) (hg:∀s H C fp,PG (X.comp scope N' s H C fp) tg g) (ht:∀s H C fp,PTs (X.comp scope N' s H C fp) ifs ti) (he:∀s H C fp,PE (X.comp scope N' s H C fp) elt te)
  (hs:∀x,foldedSetIterable iter X.env x=pure x:=by intro _;rfl):PE X (.ListComp elt [⟨tg,iter,ifs,0⟩] scope pos) (Wf s0 wi g ti te):=by
 intro pins s σ H Q I h
 rw[eval_ListComp]
 have hclos:=wa (scope:=scope) (env:=X.env) fun y hy hk=>Option.isSome_iff_exists.mpr (I.ok.has y.1 (S.free y hy hk))
 refine wpAny_comprehension_free (use:=none) rfl hs hclos S.kind S.locs (thn (hi pins s σ H _ I h) fun x s1 h1=>thn h1 fun itv s2 h2=>?_)
 obtain⟨it,fp,tn,J,H2,e,I2,T,st2,f2,hw⟩:=h2
 subst e
 have hf:H2 s2.heap.objs.size=none:=I2.hok.fresh (le_refl _)
 obtain⟨W,⟨m0,w0⟩,turn⟩:=hw _ hf
 have hlt:=Vi (pins:=pins) (σ:=σ) (H:=H2) T st2
 refine wpAny_newObj_type ?_
 have I3:Inv X pins σ (upd H2 s2.heap.objs.size (.lst [])) { s2 with heap:=s2.heap.push { cls:=.type "list", dict:=none,data:=.seq ([]:List Value).toArray } }:=
  I2.laid (t':=s2.toks) (o:=.lst []) (fun b u e=>get?_push_of_some _ e) (le_refl _) ⟨zero_le _,[],0,.nil,Heap.get?_push_size _ rfl⟩
 have hsz:s2.heap.objs.size<(s2.heap.push { cls:=.type "list", dict:=none,data:=.seq ([]:List Value).toArray }).objs.size:=by rw[Heap.size_push];exact Nat.lt_succ_self _
 refine ju (s0:=s0) (QQ:=Q) (W:=W) (m0:=m0) S hc (hl σ I2.len) (hσ σ) hg ht he I3 T (T.keep _ _ _ st2 fun b hb o e=>get?_push_of_some _ e) (fun b hb=>?_) (fun b hb=>Nat.lt_trans (hlt b hb) hsz) hsz w0 turn fun s' ⟨m,hn⟩ hq=>⟨m,hn,fun h' sb=>let ⟨v,H',I',r',q',_⟩:=hq h' sb;⟨v,H',I',r',q'⟩⟩
 obtain⟨f0,f1,f2,f3⟩:=f2 b hb
 exact⟨by rw[zm (ne_of_lt (hlt b hb))];exact f0,f1,f2,f3⟩
theorem Y6{i:Nat}{y:Str}{py spos:Pos}(hN:X.N.Nodup)(hiN:X.N[i]?=some y)(hy:X.env.scope.names.lookup y=some .local)
  (hsw:swapsWith (.ListComp elt [⟨tg,iter,ifs,0⟩] scope pos) (some (.Name y py)) spos.line X.env=pure true)
  (S:y0 X scope) (hc:X.calm=true) (hl:∀σ:St,σ.length=X.N.length→(s0 σ).length=N'.length)
  (hσ:∀(σ:St) (i:Nat) (v:V),(s0 σ)[i]?=some (some v)→∃(x:Str) (j:Nat),N'[i]?=some x∧X.N[j]?=some x∧σ[j]?=some (some v)∧scope.names.lookup x=some .free)
  (hi:PI X tg iter wi) (hg:∀s H C fp,PG (X.comp scope N' s H C fp) tg g) (ht:∀s H C fp,PTs (X.comp scope N' s H C fp) ifs ti) (he:∀s H C fp,PE (X.comp scope N' s H C fp) elt te)
  (hs:∀x,foldedSetIterable iter X.env x=pure x:=by intro _;rfl):PS X (.Assign [.Name y py] (.ListComp elt [⟨tg,iter,ifs,0⟩] scope pos) spos) (Ju (Wf s0 wi g ti te) (j3 i)):=by
 intro pins s σ H D I h
 rw[exec_Assign_Name_used _ _ _ _ hsw]
 refine wpAny_bind (wpAny_standAt (wpAny_bind ?_))
 show wpAny _ X.A (do let _ ← comprehension (.ListComp elt [⟨tg,iter,ifs,0⟩] scope pos) scope X.env _ (newList []) false (eval iter X.env) (some (assign (.Name y py) X.env))) _ _ s
 have hclos:=wa (scope:=scope) (env:=X.env) fun y hy hk=>Option.isSome_iff_exists.mpr (I.ok.has y.1 (S.free y hy hk))
 refine wpAny_bind (wpAny_mono (wpAny_comprehension_free (use:=some (assign (.Name y py) X.env)) (Q:=fun _ s'=>SP X pins D .next s') rfl hs hclos S.kind S.locs
  (thn (hi pins s σ H _ I h) fun x s1 h1=>thn h1 fun itv s2 h2=>?_)) (fun _ s' hq=>wpAny_pure (wpAny_pure hq)) fun _ _ e=>e)
 obtain⟨it,fp,tn,J,H2,e,I2,T,st2,f2,hw⟩:=h2
 subst e
 have hf:H2 s2.heap.objs.size=none:=I2.hok.fresh (le_refl _)
 obtain⟨W,⟨m0,w0⟩,turn⟩:=hw _ hf
 have hlt:=Vi (pins:=pins) (σ:=σ) (H:=H2) T st2
 refine wpAny_newObj_type ?_
 have I3:Inv X pins σ (upd H2 s2.heap.objs.size (.lst [])) { s2 with heap:=s2.heap.push { cls:=.type "list", dict:=none,data:=.seq ([]:List Value).toArray } }:=
  I2.laid (t':=s2.toks) (o:=.lst []) (fun b u e=>get?_push_of_some _ e) (le_refl _) ⟨zero_le _,[],0,.nil,Heap.get?_push_size _ rfl⟩
 have hsz:s2.heap.objs.size<(s2.heap.push { cls:=.type "list", dict:=none,data:=.seq ([]:List Value).toArray }).objs.size:=by rw[Heap.size_push];exact Nat.lt_succ_self _
 refine ju (s0:=s0) (QQ:=fun x H1=>j3 i x σ H1 D.nx) (W:=W) (m0:=m0) S hc (hl σ I2.len) (hσ σ) hg ht he I3 T (T.keep _ _ _ st2 fun b hb o e=>get?_push_of_some _ e) (fun b hb=>?_) (fun b hb=>Nat.lt_trans (hlt b hb) hsz) hsz w0 turn fun s' ⟨m,hn⟩ hq=>?_
 ·obtain⟨f0,f1,f2,f3⟩:=f2 b hb
  exact⟨by rw[zm (ne_of_lt (hlt b hb))];exact f0,f1,f2,f3⟩
 ·obtain⟨v,H5,I5,r5,q5,hC⟩:=hq s'.heap (.refl ..)
  have I5:Inv X pins σ H5 s':=I5
  show wpAny _ X.A (assign (.Name y py) X.env _) _ _ s'
  refine wpAny_assign_Name (jO I5 hN hiN (.inl hy) r5 (fun s6 I6 z_=>?_) (.inr hy))
  obtain⟨a,sb,ha⟩:=z_
  have lt3:=I3.lt
  have ca:∀x c,X.env.cells.lookup x=some c→c<(s2.heap.push { cls:=.type "list", dict:=none,data:=.seq ([]:List Value).toArray }).objs.size:=fun x c e=>by
   obtain⟨v,z⟩:=I3.cell x c e
   exact z.lt
  have hne:(s2.heap.push { cls:=.type "list", dict:=none,data:=.seq ([]:List Value).toArray }).objs.size≠a:=by
   rcases ha with rfl|ha
   ·exact ne_of_gt lt3
   ·exact ne_of_gt (ca _ _ ha)
  refine⟨m,hn.sameBut sb hne,fun h' sb'=>⟨_,H5,?_,q5⟩⟩
  refine I6.turned (t':=s6.toks) (it:=(s2.heap.push { cls:=.type "list", dict:=none,data:=.seq ([]:List Value).toArray }).objs.size) (fun b o hb e=>(sb'.2 b hb).trans e) hC (ne_of_gt lt3) (.inr I3.sz) (fun x c e=>ne_of_lt (ca x c e)) fun p hp=>?_
  exact ne_of_lt (Heap.lt_size (I3.pin p hp).1)
end
noncomputable def xt(set:FG)(ft:FT)(fe:FE)(τ:DS):List D→Rs (List D)
 |[]=>.ok []
 |d::r=>match set d τ with
  |.ok τ1=>match ft τ1 with
   |.ok true=>match fe τ1 with
    |.ok x=>(xt set ft fe τ r).bind fun xs=>.ok (x::xs)
    |_=>.no
   |.ok false=>xt set ft fe τ r
   |_=>.no
  |_=>.no
noncomputable def vw:Option (Option Sl)→Option Sl
 | some (some (.val d))=>some (.val d)
 | some (some (.obr c fs))=>some (.obr c fs)
 | some (some (.obj _ c fs))=>some (.obr c fs)
 |_=>none
noncomputable def xu(k:Nat)(idx:List Nat)(τ:DS):DS:=List.replicate k none++idx.map fun j=>vw τ[j]?
noncomputable def wz(k:Nat)(idx:List Nat)(σ:St):St:=List.replicate k none++idx.map fun j=>(σ[j]?).join
noncomputable def yQ(k:Nat)(idx:List Nat)(fi:FA)(set:FG)(ft:FT)(fe:FE):FA:=fun τ=>(fi τ).bind fun ds=>match xt set ft fe (xu k idx τ) ds with
 |.ok xs=>if xs.length≤sizeLine then .ok xs else .no
 |_=>.no
noncomputable def wG(τ:DS):Prop:=(∀(i:Nat) es,τ[i]?≠some (some (.own es)))∧∀(i n:Nat) c fs,τ[i]?≠some (some (.obj n c fs))
structure uv(set:FG):Prop where
 ov:∀d e τ τ1,set e τ=.ok τ1→set d τ1=set d τ
 no:∀d τ τ1,set d τ=.ok τ1→wG τ→wG τ1
theorem v8{τ:DS}{i:Nat}{d:D}(h:wG τ):wG (τ.set i (some (.val d))):=⟨fun j es e=>by
 by_cases hij:i=j
 ·subst hij
  rw[getElem?_set] at e
  simp only[if_true] at e
  split at e <;> cases e
 ·rw[getElem?_set_ne hij] at e;exact h.1 j es e,fun j n c fs e=>h.2 j n c fs (zZ (s:=some (.val d)) rfl rfl e).2⟩
theorem wd(i:Nat):uv (gNm i):=⟨fun d e τ τ1 h=>by
 unfold gNm at h ⊢;cases h;rw[set_set],fun d τ τ1 h n=>by unfold gNm at h;cases h;exact v8 n⟩
theorem uT(i j:Nat):uv (gPr i j):=⟨fun d e τ τ1 h=>by
 unfold gPr at h ⊢
 cases q:u6 e with
 |none=>rw[q] at h;cases h
 |some xy=>
  obtain⟨x,y⟩:=xy
  rw[q] at h;cases h
  cases q2:u6 d with
  |none=>rfl
  |some zw=>
   obtain⟨z,w⟩:=zw
   by_cases hij:i=j
   ·subst hij;simp[set_set]
   ·have e1:((τ.set i (some (.val x))).set j (some (.val y))).set i (some (.val z))=(τ.set i (some (.val z))).set j (some (.val y)):=by
     rw[List.set_comm _ _ (Ne.symm hij),set_set]
    simp only
    rw[e1,set_set]
    , fun d τ τ1 h n=>by
 unfold gPr at h
 cases q:u6 d with
 |none=>rw[q] at h;cases h
 |some xy=>
  obtain⟨x,y⟩:=xy
  rw[q] at h;cases h
  exact v8 (v8 n)⟩
theorem wv(k:Nat)(idx:List Nat)(τ:DS):∀(i:Nat) es,(xu k idx τ)[i]?≠some (some (.own es)):=fun i es e=>by
 unfold xu at e
 by_cases hi:i<k
 ·rw[getElem?_append_left (by simpa using hi),getElem?_replicate] at e
  simp[hi] at e
 ·rw[getElem?_append_right (by simpa using hi),getElem?_map] at e
  cases q:idx[i-(List.replicate k (none:Option Sl)).length]? with
  |none=>rw[q] at e;cases e
  |some j=>
   rw[q] at e
   simp only[Option.map_some,Option.some.injEq] at e
   unfold vw at e
   split at e <;> cases e
theorem vh(k:Nat)(idx:List Nat)(τ:DS):∀(i n:Nat) c fs,(xu k idx τ)[i]?≠some (some (.obj n c fs)):=fun i n c fs e=>by
 unfold xu at e
 by_cases hi:i<k
 ·rw[getElem?_append_left (by simpa using hi),getElem?_replicate] at e
  simp[hi] at e
 ·rw[getElem?_append_right (by simpa using hi),getElem?_map] at e
  cases q:idx[i-(List.replicate k (none:Option Sl)).length]? with
  |none=>rw[q] at e;cases e
  |some j=>
   rw[q] at e
   simp only[Option.map_some,Option.some.injEq] at e
   unfold vw at e
   split at e <;> cases e
theorem yU(k:Nat)(idx:List Nat)(τ:DS):wG (xu k idx τ):=⟨wv k idx τ,vh k idx τ⟩
theorem WV{k:Nat}{idx:List Nat}{τ:DS}{i:Nat}{c:Str}{fs:List (Str×D)}(e:(xu k idx τ)[i]?=some (some (.obr c fs))):∃j,k≤i∧idx[i-k]?=some j∧((∃n,τ[j]?=some (some (.obj n c fs)))∨τ[j]?=some (some (.obr c fs))):=by
 unfold xu at e
 by_cases hi:i<k
 ·rw[getElem?_append_left (by simpa using hi),getElem?_replicate] at e
  simp[hi] at e
 ·rw[getElem?_append_right (by simpa using hi),getElem?_map] at e
  simp only[List.length_replicate] at e
  cases q:idx[i-k]? with
  |none=>rw[q] at e;cases e
  |some j=>
   rw[q] at e
   simp only[Option.map_some,Option.some.injEq] at e
   unfold vw at e
   split at e <;> cases e
   ·exact⟨j,by lia,rfl,.inr (by assumption)⟩
   ·exact⟨j,by lia,rfl,.inl ⟨_,by assumption⟩⟩
theorem ObsOk.read{K:Frag}{F H:Hp}{τ:DS}{σ:St}(n:wG τ)(h:∀(i:Nat) (c:Str) (fs:List (Str×D)),τ[i]?=some (some (.obr c fs))→∃a C dx vs,σ[i]?=some (some (.ref a))∧H a=some (.ins C dx vs)∧nsIn K mainGlobals c=some (some (.ref C))∧Flds K F H c fs vs):ObsOk K F τ σ H:=
 ⟨fun i m c fs h=>absurd h (n.2 i m c fs),fun i j m c c' fs a _ h=>absurd h (n.2 i m c fs),h,fun i j m c c' fs a a' l _ h=>absurd h (n.2 i m c fs),fun i j c ds a l _ h=>absurd h (n.1 j ds)⟩
theorem RV.free_upd{K:Frag}{F H:Hp}{τ:DS}{σ:St}{p:Addr}{o:HO}(R:RV K F τ σ H)(n:wG τ)(hp:F p=none)(hl:H p=none∨∃vs,H p=some (.lst vs))(hq:∀(i:Nat) (c:Str) (a:Addr),ObS τ[i]? c→σ[i]?=some (some (.ref a))→p∉Lof H c a)(ho:∀a,o≠.own a:=by intro _ h;cases h):RV K F τ σ (upd H p o):=
 ⟨fun b u e=>by
  have:b≠p:=fun z=>by subst z;rw[hp] at e;cases e
  rw[zm this];exact R.fh b u e,R.len,R.val,fun i es e=>absurd e (n.1 i es),fun i j ds es a _ h=>absurd h (n.1 i ds),R.tt.step (fun _ _ e=>.inl e) (fun b o e n=>by
  have:b≠p:=fun z=>by
   subst z
   rcases hl with z|⟨vs,z⟩
   ·rw[z] at e;cases e
   ·rw[z] at e;cases e;exact n _ rfl
  rw[zm this];exact e) (v7 ho),R.ob.updL hl hq⟩
theorem RS.apart{K:Frag}{B Z F H:Hp}{τ:DS}{σ:St}{p:Addr}(R:RS K B Z F τ σ H)(n:wG τ)(hp:B p=none):∀(i:Nat) (c:Str) (a:Addr),ObS τ[i]? c→σ[i]?=some (some (.ref a))→p∉Lof H c a:=fun i c a h e hm=>by
 rcases h with ⟨m,fs,h⟩|⟨fs,h⟩
 ·exact n.2 i m c fs h
 ·obtain⟨C,dx,vs,h1,h2⟩:=R.ro i c fs a h e
  rw[Lof.ins (R.bh _ _ h1)] at hm
  obtain⟨ws,h3⟩:=h2 p hm
  rw[hp] at h3;cases h3
theorem RS.free_upd{K:Frag}{B Z F H:Hp}{τ:DS}{σ:St}{p:Addr}{vs:List V}(R:RS K B Z F τ σ H)(n:wG τ)(hb:B p=none)(hp:F p=none)(hl:H p=none∨∃vs,H p=some (.lst vs)):RS K B Z F τ σ (upd H p (.lst vs)):=
 ⟨R.rv.free_upd n hp hl (R.apart n hb),fun a o e=>by
  have:a≠p:=fun z=>by subst z;rw[hb] at e;cases e
  rw[zm this];exact R.bh a o e,R.zf,R.nb,fun i ds a h=>absurd h (n.1 i ds),fun i m c fs a h=>absurd h (n.2 i m c fs),fun a0 dx h1 h2 i m c fs h=>absurd h (n.2 i (m+1) c fs),R.ro⟩
theorem Y1{K:Frag}{F H:Hp}{τ:DS}{σ:St}(k:Nat)(idx:List Nat)(R:RV K F τ σ H):RV K F (xu k idx τ) (wz k idx σ) H:=by
 refine⟨R.fh,by simp[xu,wz],fun i d e=>?_,fun i es e=>absurd e (wv k idx τ i es),fun i j ds es a _ h=>absurd h (wv k idx τ i ds),R.tt,ObsOk.read (yU k idx τ) fun i c fs e=>?_⟩
 rotate_left
 ·obtain⟨j,hk,hj,h⟩:=WV e
  have es:∀v,σ[j]?=some (some v)→(wz k idx σ)[i]?=some (some v):=fun v h=>by
   unfold wz
   rw[getElem?_append_right (by simpa using hk),getElem?_map]
   simp[hj,h]
  rcases h with ⟨n,h⟩|h
  ·obtain⟨a,h1,C,dx,vs,h2,_,h4,h5,_⟩:=R.ob.at_ j n c fs h
   exact⟨a,C,dx,vs,es _ h1,h2,h4,h5⟩
  ·obtain⟨a,C,dx,vs,h1,h2,h4,h5⟩:=R.ob.rd j c fs h
   exact⟨a,C,dx,vs,es _ h1,h2,h4,h5⟩
 unfold xu at e
 unfold wz
 by_cases hi:i<k
 ·rw[getElem?_append_left (by simpa using hi),getElem?_replicate] at e
  simp[hi] at e
 ·rw[getElem?_append_right (by simpa using hi),getElem?_map] at e
  rw[getElem?_append_right (by simpa using hi),getElem?_map]
  simp only[List.length_replicate] at e ⊢
  cases q:idx[i-k]? with
  |none=>rw[q] at e;cases e
  |some j=>
   rw[q] at e
   simp only[Option.map_some,Option.some.injEq] at e
   have:τ[j]?=some (some (.val d)):=by
    unfold vw at e
    split at e <;> cases e
    assumption
   obtain⟨v,h1,h2⟩:=R.val j d this
   exact⟨v,by simp[h1],h2⟩
theorem Y2{K:Frag}{F H:Hp}{τ:DS}{σ:St}(k:Nat)(idx:List Nat)(R:RV K F τ σ H):RS K H F F (xu k idx τ) (wz k idx σ) H:=
 ⟨Y1 k idx R,Hh.refl H,Same.refl F,fun a o e=>.inl e,fun i ds a h=>absurd h (wv k idx τ i ds),fun i m c fs a h=>absurd h (vh k idx τ i m c fs),fun a0 dx h1 h2 i m c fs h=>absurd h (vh k idx τ i (m+1) c fs),fun i c fs a h e=>by
  obtain⟨a',C,dx,vs,h1,h2,_,h5⟩:=(Y1 k idx R).ob.rd i c fs h
  rw[e] at h1;cases h1
  exact⟨C,dx,vs,h2,fun l hl=>(h5.own hl).2⟩⟩
noncomputable def xA(H:Hp)(p:Addr):Hp:=fun b=>if b=p then none else H b
theorem wI(H:Hp)(p:Addr):xA H p p=none:=by unfold xA;rw[if_pos rfl]
theorem ub{H:Hp}{p b:Addr}(h:b≠p):xA H p b=H b:=by unfold xA;rw[if_neg h]
theorem uN(H:Hp)(p:Addr)(o:HO):upd (xA H p) p o=upd H p o:=by
 funext b;unfold upd xA;split <;> rfl
theorem jp{F1 H1 F2 Hm F5 H5:Hp}{acc:Addr}{ls:List V}(a:Ext F1 H1 F2 Hm)(hm:Hm acc=none)(b:Ext F2 (upd Hm acc (.lst ls)) F5 H5):Ext F1 H1 F5 (xA H5 acc)∧F5 acc=none:=by
 have hf5:F5 acc=none:=by
  cases q:F5 acc with
  |none=>rfl
  |some o=>
   rcases b.nw acc o q with z|z
   ·rw[zv a.fh hm] at z;cases z
   ·rw[zr] at z;cases z
 have h1:H1 acc=none:=xN a.hh hm
 have ha:H5 acc=some (.lst ls):=b.hh acc _ zr
 refine⟨⟨a.ff.trans b.ff,fun c o e=>?_,fun c o e=>?_,fun c o e=>?_,fun t=>?_⟩,hf5⟩
 ·have n:c≠acc:=fun z=>by subst z;rw[h1] at e;cases e
  rw[ub n]
  exact((a.hh.trans (.of (zI hm))).trans b.hh) c o e
 ·have n:c≠acc:=fun z=>by subst z;rw[hf5] at e;cases e
  rw[ub n];exact b.fh c o e
 ·rcases b.nw c o e with z|z
  ·exact a.nw c o z
  ·have n:c≠acc:=fun z'=>by subst z';rw[zr] at z;cases z
   rw[zm n] at z
   exact .inr (xN a.hh z)
 ·have t2:=b.tt ((a.tt t).step (F':=F2) (H':=upd Hm acc (.lst ls)) (fun _ _ e=>.inl e) (fun c o e _=>by rw[zm (zx e hm)];exact e) (v7 fun _ z=>nomatch z))
  exact t2.step (fun _ _ e=>.inl e) (fun c o e n=>by
   have:c≠acc:=fun z=>by subst z;rw[ha] at e;cases e;exact n _ rfl
   rw[ub this];exact e) fun d a e=>by
   unfold xA at e
   split at e
   ·cases e
   ·exact e
noncomputable def FreeOk(scope:Scope)(N:List Str):List Str→List Nat→Prop
 |[],[]=>True
 |x::xs,j::js=>N[j]?=some x∧scope.names.lookup x=some .free∧FreeOk scope N xs js
 |_,_=>False
theorem FreeOk.len{scope:Scope}{N:List Str}:∀{xs:List Str} {js:List Nat},FreeOk scope N xs js→xs.length=js.length
 |[],[],_=>rfl
 |_::xs,_::js,h=>by rw[length_cons,length_cons,FreeOk.len h.2.2]
theorem FreeOk.get{scope:Scope}{N:List Str}:∀{xs:List Str} {js:List Nat} {p j:Nat},FreeOk scope N xs js→js[p]?=some j→∃x,xs[p]?=some x∧N[j]?=some x∧scope.names.lookup x=some .free
 |[],[],_,_,_,e=>by simp at e
 |x::xs,i::js,0,j,h,e=>by simp at e;subst e;exact⟨x,rfl,h.1,h.2.1⟩
 |x::xs,i::js,p+1,j,h,e=>by
  obtain⟨y,h1,h2⟩:=FreeOk.get (p:=p) h.2.2 (by simpa using e)
  exact⟨y,by simpa using h1,h2⟩
noncomputable def wV(osc scope:Scope):Bool:=(match scope.kind with | .function=>true|_=>false)&&scope.names.all (fun y=>match y.2 with
 |.cell=>false
 |.local=>(match scope.names.lookup y.1 with|some .local=>true|_=>false)
 |.free=>(match osc.names.lookup y.1 with|some .cell=>true|some .free=>true|_=>false)
 |_=>true)
theorem xI{X:Cx}{scope:Scope}(h:wV X.env.scope scope=true):y0 X scope:=by
 unfold wV at h
 rw[Bool.and_eq_true,all_eq_true] at h
 obtain⟨h1,h2⟩:=h
 refine⟨?_,fun y hy z=>?_,fun y hy z=>?_,fun y hy z=>?_⟩
 ·split at h1
  ·assumption
  ·cases h1
 ·have:=h2 y hy;rw[z] at this;cases this
 ·have:=h2 y hy;rw[z] at this
  simp only at this
  split at this
  ·assumption
  ·cases this
 ·have:=h2 y hy;rw[z] at this
  simp only at this
  split at this
  ·left;assumption
  ·right;assumption
  ·cases this
noncomputable def VD(Y:Cx)(ifs:List Expr)(f:FT):Prop:=PTs Y ifs (tTs Y f)
theorem we{Y:Cx}:VD Y [] (fun _=>.ok true):=fun pins s σ H Q I z_=>by obtain⟨F,τ,R,h⟩:=z_;exact V2 pins s σ H Q I (h F H (Ext.refl R.fh))
theorem Z4{Y:Cx}{c:Expr}{f:FT}(h:PDT Y c f):VD Y [c] f:=V1 h
section
variable{X:Cx}{scope:Scope}{tn fr:List Str}{idx:List Nat}{tg iter elt:Expr}{ifs:List Expr}{pos:Pos}{fi:FA}{set:FG}{ft:FT}{fe:FE}
structure CWH(K:Frag)(set:FG)(ft:FT)(fe:FE)(t0:DS)(ds xs:List D)(F1 H1:Hp)(acc:Addr)(i:Nat)(σ1:St)(Hc F2 Hm:Hp)(τ1:DS)(dn rs:List D)(vs:List V):Prop where
 a1:Ext F1 H1 F2 Hm
 a2:Hm acc=none
 a3:Hc=upd Hm acc (.lst vs)
 a4:Reps K F2 dn vs
 a5:RS K H1 F1 F2 τ1 σ1 Hc
 a6:wG τ1
 a7:∀d,set d τ1=set d t0
 a8:xt set ft fe t0 (ds.drop i)=.ok rs
 a9:xs=dn++rs
theorem uC(hfr:FreeOk scope X.N fr idx)(σ:St)(i:Nat)(v:V)(h:(wz tn.length idx σ)[i]?=some (some v)):∃(x:Str) (j:Nat),(tn++fr)[i]?=some x∧X.N[j]?=some x∧σ[j]?=some (some v)∧scope.names.lookup x=some .free:=by
 unfold wz at h
 by_cases hi:i<tn.length
 ·rw[getElem?_append_left (by simpa using hi),getElem?_replicate] at h
  simp[hi] at h
 ·rw[getElem?_append_right (by simpa using hi),getElem?_map] at h
  simp only[List.length_replicate] at h
  cases q:idx[i-tn.length]? with
  |none=>rw[q] at h;cases h
  |some j=>
   rw[q] at h
   simp only[Option.map_some,Option.some.injEq] at h
   obtain⟨x,h1,h2,h3⟩:=hfr.get q
   refine⟨x,j,by rw[getElem?_append_right (by lia)];exact h1,h2,?_,h3⟩
   cases z:σ[j]? with
   |none=>rw[z] at h;cases h
   |some o=>rw[z] at h;simp at h;rw[h]
end
section
variable{prog:Program}{w:World}{A:Around}{E:Value→Shared→Prop}{s:Shared}{z TI TO i1 i2:Addr}{n1 n2:Nat}{P1 P2:Nat→Value→Prop}{st1 st2:Nat→Heap→Prop}{rd1 rd2:Heap→Prop}
end
theorem VG{X:Cx}{pins:List (Addr×Obj)}{σ:St}{H:Hp}{s:Shared}{h':Heap}{t':Nat}{ch:List Addr}(I:Inv X pins σ H s)(k:∀b o,b∉ch→s.heap.get? b=some o→h'.get? b=some o)(hf:∀b∈ch,vU X pins H b)(he:∀b∈ch,H b=none) :
  Inv X pins σ H { s with heap:=h',toks:=t' }:=by
 refine I.step (g':=s.gens) (d':=s.drawn) (ch:=ch) (fun b hb=>?_) (fun b o _ _ hc e _=>k b o hc e) (fun b o _ _ hc e _=>⟨o.slots,k b o hc e⟩) (fun _ _ _ _ n=>n)
  (fun b o hc e=>⟨o,k b o hc e⟩) (fun _ _ e=>e) (fun _ _ _ e=>e) (fun b ps e=>⟨#[],by rw[e];simp⟩) (fun m hm=>?_) (fun b u e=>?_) I.bare
 ·obtain⟨f0,f1,f2,f3,f4,f5⟩:=hf b hb
  exact⟨f3,f1,f4,f5⟩
 ·obtain⟨o,es,ep,ho,r⟩:=hm
  exact⟨o,es,ep,k _ o (fun z=>(hf _ z).2.1 rfl) ho,r⟩
 ·refine(I.hok b u e).stay (fun c v hc q=>k c v ?_ q) (fun _ q=>q) fun _ _ q=>q
  intro z
  rcases hc with q|q
  ·subst q;rw[he c z] at e;cases e
  ·rw[he c z] at q;cases q
theorem VF{X:Cx}{pins:List (Addr×Obj)}{σ:St}{H:Hp}{s:Shared}{h':Heap}{t':Nat}{ch:List Addr}{p:Addr}{xs:List V}{its:List Value}(I:Inv X pins σ H s)(k:∀b o,b∉ch→s.heap.get? b=some o→h'.get? b=some o)(hf:∀b∈ch,vU X pins H b)
  (hp:s.heap.objs.size≤p) (ht:IsTup h' p its.toArray) (hv:Vals xs its) (hz:xs.length≤sizeLine) :
  Inv X pins σ (upd H p (.tup xs)) { s with heap:=h',toks:=t' }:=by
 have hn:H p=none:=I.hok.fresh hp
 have lt:∀{b:Addr} {o:Obj},s.heap.get? b=some o→b≠p:=fun e=>ne_of_lt (lt_of_lt_of_le (Heap.lt_size e) hp)
 refine I.step (g':=s.gens) (d':=s.drawn) (ch:=ch) (fun b hb=>?_) (fun b o _ _ hc e _=>k b o hc e) (fun b o _ _ hc e _=>⟨o.slots,k b o hc e⟩) (fun b o _ e n=>by rw[zm (lt e)];exact n)
  (fun b o hc e=>⟨o,k b o hc e⟩) (fun b ys e=>by rw[zm (zx e hn)];exact e) (fun b o u e=>by rw[zm (zx e hn)];exact e) (fun b ps e=>⟨#[],by rw[zm (zx e hn),e];simp⟩) (fun m hm=>?_) (fun b u e=>?_) I.bare
 ·obtain⟨f0,f1,f2,f3,f4,f5⟩:=hf b hb
  exact⟨f3,f1,f4,f5⟩
 ·obtain⟨o,es,ep,ho,r⟩:=hm
  exact⟨o,es,ep,k _ o (fun z=>(hf _ z).2.1 rfl) ho,r⟩
 ·by_cases hb:b=p
  ·subst hb;rw[zr] at e;cases e
   exact⟨hz,its,hv,ht⟩
  ·rw[zm hb] at e
   refine(I.hok b u e).stay (fun c v hc q=>k c v ?_ q) (fun c q=>by rw[zm (zx q hn)];exact q) fun c ys q=>by rw[zm (zx q hn)];exact q
   intro z
   rcases hc with q|q
   ·subst q;rw[(hf c z).1] at e;cases e
   ·rw[(hf c z).1] at q;cases q
noncomputable def zy(c:Nat):D:=.str ⟨#[c]⟩
noncomputable def xM(x:Str):List D:=x.cps.toList.map zy
noncomputable def Its(x:Str):It:=⟨fun i _=>i<x.cps.size,fun i H y H'=>H'=H∧∃c,x.cps[i]?=some c∧y=.str ⟨#[c]⟩,fun i _=>x.cps.size≤i⟩
theorem X9{P:Program}{w:World}{K:Frag}{tg:Expr}{it:Addr}{x:Str}{t:Tok}{ty:String}(hty:ty = "str_ascii_iterator" ∨ ty = "str_iterator"):ZM P w K tg (Its x) [it] it (fun k h=>h.IsStrIter it ty x t k) where
 mem:=by simp
 obj:=fun i h ⟨o,e,c,d⟩ b hb=>by
  have z:b=it:=by simpa using hb
  subst z
  exact⟨o,e,fun v z=>by rw[d] at z;cases z⟩
 keep:=fun i h h' ⟨o,e,r⟩ k=>⟨o,k it (by simp) o e,r⟩
 item:=by
  intro X hP hw hK hc i pins s σ H E I hf st hg
  subst hP hw hK
  obtain⟨f0,f1,f2,f3,f4,f5⟩:=hf it (by simp)
  have hh:X.A.handled=none:=I.ok.hd hc
  have W:Walks X.prog X.w X.A it [it] [it] x.cps.size (SignAt x) (fun i h=>h.IsStrIter it ty x t i):=by
   rcases hty with rfl|rfl
   ·exact Walks.strAscii hh it x t
   ·exact Walks.strWide hh it x t
  refine W.item i s _ _ hg st fun v h' tk hv st' kk=>?_
  obtain⟨c,u,ec,rfl⟩:=hv
  have I1:Inv X pins σ H { s with heap:=h',toks:=tk }:=I.turned (fun b o hb e=>kk b o (by simpa using hb) e) f0 f1 f3 f4 f5
  obtain⟨o,e,cc,d⟩:=id st'
  exact⟨_,rfl,Xl (s:={ s with heap:=h',toks:=tk }) e cc d (by rcases hty with rfl|rfl <;> decide) ⟨.str ⟨#[c]⟩,H,I1,⟨u,rfl⟩,⟨rfl,c,ec,rfl⟩,st',fun b hb=>(hf b hb).1⟩⟩
 done:=by
  intro X hP hw hK hc i pins s σ H E I hf st hg
  subst hP hw hK
  obtain⟨f0,f1,f2,f3,f4,f5⟩:=hf it (by simp)
  have hh:X.A.handled=none:=I.ok.hd hc
  have hx:x.cps[i]?=none:=by have:x.cps.size≤i:=hg;simp;lia
  rcases hty with rfl|rfl
  ·exact wpAny_pyNext_ascii_end hh st hx fun h' eb=>⟨rfl,I.turned (t':=s.toks) (fun b o hb e=>eb b o hb e) f0 f1 f3 f4 f5⟩
  ·exact wpAny_pyNext_wide_end hh st hx fun h' eb=>⟨rfl,I.turned (t':=s.toks) (fun b o hb e=>eb b o hb e) f0 f1 f3 f4 f5⟩
 self:=fun _ _ _ _ _ st h=>by
  rcases hty with rfl|rfl
  ·exact wpAny_pyIter_striter_ascii st h
  ·exact wpAny_pyIter_striter_wide st h
section
variable{X:Cx}{pos:Pos}{e tg:Expr}{es:List Expr}{fe:FE}{fs:FA}
theorem Qe{K:Frag}{F1:Hp}{x:Str}:X4 K (Its x) F1 (xM x):=fun i F H f1 f2=>by
 have hl:(xM x).length=x.cps.size:=by simp[xM]
 refine⟨fun h=>by rw[hl] at h;exact h,fun d hd=>?_⟩
 have hi:i<x.cps.size:=by have:=(List.getElem?_eq_some_iff.mp hd).1;rw[hl] at this;exact this
 refine⟨hi,fun y H' yy=>?_⟩
 obtain⟨e1,c,ec,rfl⟩:=yy
 subst e1
 refine⟨F,Ext.refl f2,?_⟩
 have:d=zy c:=by
  simp only[xM,getElem?_map] at hd
  have e2:x.cps.toList[i]?=some c:=by simpa using ec
  rw[e2] at hd
  exact(Option.some.inj hd).symm
 subst this
 simp only[zy,Rep]
end
section
variable{X:Cx}{pos:Pos}{e tg:Expr}{es:List Expr}{fe:FE}{fs:FA}
noncomputable def len1:D→Rs D
 |.lst ds=>.ok (.int ds.length)
 |.tup ds=>.ok (.int ds.length)
 |.scr ns=>.ok (.int ns.length)
 |.str x=>if x.length≤sizeLine then .ok (.int x.length) else .no
 |_=>.no
noncomputable def y8:List D→Rs D
 |[d]=>len1 d
 |_=>.no
theorem xC:jD X (.builtin "len") y8:=⟨_,call_len_seq.or ZK,fun F H vs ds Q fh r h=>by
 match ds,r,h with
 |[d],r,h=>
  obtain⟨v,rfl,q⟩:=r.one
  cases d with
  |lst ds=>
   simp only[Rep] at q;obtain⟨a,ws,rfl,e1,t⟩:=q
   refine .inl ⟨a,ws,rfl,.inl (SqL.of (fh _ _ e1)),?_⟩
   rw[← t.length];exact h _ F H (Ext.refl fh) (by simp only[Rep])
  |tup ds=>
   simp only[Rep] at q;obtain⟨a,ws,rfl,e1,t⟩:=q
   refine .inl ⟨a,ws,rfl,.inr (Same.seqT fh e1),?_⟩
   rw[← t.length];exact h _ F H (Ext.refl fh) (by simp only[Rep])
  |scr ns=>
   simp only[Rep] at q;obtain⟨a,rfl,e1⟩:=q
   refine .inl ⟨a,_,rfl,.inl (fh.seq e1),?_⟩
   rw[length_map];exact h _ F H (Ext.refl fh) (by simp only[Rep])
  |str x=>
   simp only[Rep] at q;subst q
   obtain⟨z,h⟩:=zW h
   exact .inr ⟨x,rfl,z,h _ F H (Ext.refl fh) (by simp only[Rep])⟩
  |_=>exact h.elim
 |[],_,h=>exact h.elim
 |_::_::_,_,h=>exact(show False from h).elim⟩
noncomputable def MtD(X:Cx)(id:String)(g:D→List D→Rs D):Prop:=∃r,MtR X id r∧∀F H v vs d ds Q,Same F H→Rep X.K F d v→Reps X.K F ds vs→Ok X (g d ds) (Ev X.K F H Q)→r v vs H Q
noncomputable def ZA(T:String):D→Bool
 |.str _=>T = "str"
 |.int _=>T = "int"
 |.lst _=>T = "list"
 |.scr _=>T = "list"
 |_=>false
noncomputable def eMt(T:String)(g:D→List D→Rs D)(fo:FE)(fa:FA):FE:=fun τ=>(fo τ).bind fun d=>if ZA T d=true then (fa τ).bind fun ds=>g d ds else .no
theorem Jr{F H:Hp}{d:D}{v:V}{T:String}(fh:Same F H)(r:Rep X.K F d v)(h:ZA T d=true):tyV X.K T v H:=by
 cases d with
 |str x=>simp only[Rep] at r;subst r;show T = "str"; simpa[ZA] using h
 |int x=>simp only[Rep] at r;subst r;show T = "int"; simpa[ZA] using h
 |lst ds=>simp only[Rep] at r;obtain⟨a,vs,rfl,e,t⟩:=r;exact .inl ⟨by simpa[ZA] using h,vs,SqL.of (fh _ _ e)⟩
 |scr ds=>simp only[Rep] at r;obtain⟨a,rfl,e⟩:=r;exact .inl ⟨by simpa[ZA] using h,_,fh.seq e⟩
 |_=>simp[ZA] at h
theorem ok_if{X:Cx}{α:Type}{c:Prop}[Decidable c]{r:Rs α}{P:α→Prop}(h:Ok X (if c then r else .no) P):c∧Ok X r P:=by
 by_cases z:c
 ·rw[if_pos z] at h;exact⟨z,h⟩
 ·rw[if_neg z] at h;exact h.elim
theorem xZ{T id:String}{name:Str}{o:Expr}{apos cpos:Pos}{fo:FE}{g:D→List D→Rs D}(pa:PlainAttrs T)(slot:Slot T name id)(hty:typeOf (.builtin id)=pure (.type "method_descriptor"))(hm:MtD X id g)(ho:PDE X o fo)(ha:PDA X (e::es) fs)
  (hbase:attributeBase o name X.env (eval o X.env)=eval o X.env:=by rfl)
  (hfew:((backTo cpos (starEach (e::es) X.env)).all (fun x=>!x.1)&&(backToKw cpos (keywordEach [] X.env)).all (fun x=>x.1.isSome)
   && decide ((e::es).length+([]:List Keyword).length+(if ([]:List Keyword).isEmpty then 0 else 1)<30))=true:=by rfl)
  (hline:(apos.endLine==cpos.line)=true:=by rfl) (hs:starEach (e::es) X.env=(false,eval e X.env)::starEach es X.env:=by rfl) (hplain:(backTo cpos (starEach es X.env)).any (·.1)=false:=by rfl) :
  PDE X (.Call (.Attribute o name apos) (e::es) [] cpos) (eMt T g fo fs):=by
 obtain⟨r,h1,h2⟩:=hm
 exact PE.imp (Je pa slot hty h1 ho ha hbase hfew hline hs hplain) fun σ H Q z_=>by
  obtain⟨Fz,τ,R,h⟩:=z_
  refine tE.of R h.bind fun d v F1 H1 q x R1 rr=>?_
  obtain⟨z,q⟩:=ok_if q
  exact⟨Jr R1.fh rr z,tAs.of R1 q.bind fun ds vs F2 H2 q2 x2 R2 rs=>h2 F2 H2 v vs d ds Q R2.fh (rr.mono x2.ff) rs (q2.imp fun d e=>e.ext (x.trans x2))⟩
noncomputable def xL:List D→Option (List Str)
 |[]=>some []
 |.str x::r=>(xL r).map (x :: ·)
 |_=>none
theorem jM{K:Frag}{F:Hp}:∀{ds:List D} {ys:List Str} {vs:List V} {us:List Value},xL ds=some ys→Reps K F ds vs→Vals vs us→StrsAre us ys
 |[],ys,vs,us,h,r,rv=>by
  simp only[Reps] at r;subst r;cases rv;cases h;exact .nil
 |.str x::ds,ys,vs,us,h,r,rv=>by
  simp only[Reps,Rep] at r
  obtain⟨v,r',rfl,rfl,t⟩:=r
  simp only[xL] at h
  cases q:xL ds with
  |none=>rw[q] at h;cases h
  |some zs=>
   rw[q] at h;cases h
   cases rv with
   |cons r1 r2=>
    obtain⟨tk,rfl⟩:=r1
    exact .cons x tk (jM q t r2)
 |.non::_,_,_,_,h,_,_=>by cases h
 |.bl _::_,_,_,_,h,_,_=>by cases h
 |.int _::_,_,_,_,h,_,_=>by cases h
 |.lst _::_,_,_,_,h,_,_=>by cases h
 |.tup _::_,_,_,_,h,_,_=>by cases h
 |.scr _::_,_,_,_,h,_,_=>by cases h
 |.raw _::_,_,_,_,h,_,_=>by cases h
 |.exc _::_,_,_,_,h,_,_=>by cases h
 |.dct _ _::_,_,_,_,h,_,_=>by cases h
noncomputable def wH:D→List D→Rs D
 |.str x,[.lst ds]=>match xL ds with
  |some ys=>if (ys.map (·.length)).sum+ys.length*x.length≤16777216 then .ok (.str (Txt.join x ys)) else .no
  |none=>.no
 |_,_=>.no
theorem UA:MtR X "str.join" (fun v vs H Q=>∃x a ws F ds ys,v=.str x∧vs=[.ref a]∧H a=some (.lst ws)∧Reps X.K F ds ws∧xL ds=some ys∧(ys.map (·.length)).sum+ys.length*x.length≤16777216∧Q (.str (Txt.join x ys)) H):=by
 intro pins s σ H v vs u us Q I r rs h
 obtain⟨x,a,ws,F,ds,ys,rfl,rfl,e,t,hs,hz,q⟩:=h
 obtain⟨tk,rfl⟩:=r
 obtain⟨u',rfl,ru⟩:=rs.one
 cases ru
 obtain⟨its,rr,p,_⟩:=I.list (SqL.of (K:=X.K) e)
 exact join_list p.isList (by simpa using jM hs t rr) hz fun t' k=>⟨.str (Txt.join x ys),H,I.tok _,⟨_,rfl⟩,q⟩
theorem uG:MtD X "str.join" wH:=⟨_,UA,fun F H v vs d ds Q fh r rs h=>by
 cases d with
 |str x=>
  cases ds with
  |nil=>exact h.elim
  |cons a b=>
   cases b with
   |cons c d=>cases a <;> exact h.elim
   |nil=>
    cases a with
    |lst ds=>
     simp only[Rep] at r;subst r
     obtain⟨w,rfl,rw'⟩:=rs.one
     simp only[Rep] at rw'
     obtain⟨a,ws,rfl,e,t⟩:=rw'
     simp only[wH] at h
     cases q:xL ds with
     |none=>rw[q] at h;exact h.elim
     |some ys=>
      rw[q] at h
      obtain⟨z,h⟩:=zW h
      exact⟨x,a,ws,F,ds,ys,rfl,rfl,fh _ _ e,t,q,z,h _ F H (Ext.refl fh) (by simp only[Rep])⟩
    |_=>exact h.elim
 |_=>exact(by
   revert h
   cases ds with
   |nil=>exact fun h=>h.elim
   |cons a b=>cases b with
    |nil=>cases a <;> exact fun h=>h.elim
    |cons c d=>cases a <;> exact fun h=>h.elim)⟩
end
section
variable{X:Cx}{pos:Pos}{e tg:Expr}{es:List Expr}{fe:FE}{fs:FA}
noncomputable def vn(d:D)(T:String):Rs Bool:=match d with
 |.raw _=>.no
 |.exc _=>.no
 |.dct _ _=>.no
 |d=>if T = "str" then .ok (match d with | .str _=>true|_=>false)
  else if T = "int" then .ok (match d with | .int _=>true | .bl _=>true|_=>false)
  else if T = "bool" then .ok (match d with | .bl _=>true|_=>false)
  else if T = "list" then .ok (match d with | .lst _=>true | .scr _=>true|_=>false)
  else if T = "tuple" then .ok (match d with | .tup _=>true|_=>false)
  else .no
noncomputable def YS:List D→Option (D×String)
 | [d,.raw (.ty T)]=>some (d,T)
 |_=>none
theorem X6{ds:List D}{d:D}{T:String}(h:YS ds=some (d,T)):ds=[d,.raw (.ty T)]:=by
 unfold YS at h;split at h <;> cases h;rfl
noncomputable def Va(ds:List D):Rs D:=match YS ds with
 | some (d,T)=>(vn d T).bind fun b=>.ok (.bl b)
 |none=>.no
theorem Vv:CallR X (.builtin "isinstance") (fun vs H Q=>∃F d v T b,Same F H∧Rep X.K F d v∧vs=[v,.ty T]∧vn d T=.ok b∧Q (.bl b) H):=by
 intro pins s σ H vs us Q I r h
 obtain⟨F,d,v,T,b,fh,rd,rfl,hb,q⟩:=h
 obtain⟨u,w,rfl,r1,r2⟩:=vals2 r
 cases r2
 have fin:∀{b':Bool},b=b'→EP X pins σ Q (.bool b') s:=fun e=>by subst e;exact⟨.bl _,H,I,rfl,q⟩
 have fin':∀{b':Bool},b=b'→EP X pins σ Q (.bool b') { s with toks:=s.toks+1 }:=fun e=>by subst e;exact⟨.bl _,H,I.tok _,rfl,q⟩
 have hT:T = "str" ∨ T = "int" ∨ T = "bool" ∨ T = "list" ∨ T = "tuple" := by
  by_cases h1:T = "str"; exact .inl h1
  by_cases h2:T = "int"; exact .inr (.inl h2)
  by_cases h3:T = "bool"; exact .inr (.inr (.inl h3))
  by_cases h4:T = "list"; exact .inr (.inr (.inr (.inl h4)))
  by_cases h5:T = "tuple"; exact .inr (.inr (.inr (.inr h5)))
  exfalso
  unfold vn at hb
  cases d <;> simp[h1,h2,h3,h4,h5] at hb
 cases d with
 |raw _=>simp[vn] at hb
 |exc _=>simp[vn] at hb
 |dct _ _=>simp[vn] at hb
 |non=>
  simp only[Rep] at rd;subst rd;cases r1
  rcases hT with rfl|rfl|rfl|rfl|rfl <;> simp[vn] at hb <;> first
   | exact IsiPair.NoneType_str (fin' hb) | exact IsiPair.NoneType_int (fin' hb) | exact IsiPair.NoneType_bool (fin' hb) | exact IsiPair.NoneType_list (fin' hb) | exact IsiPair.NoneType_tuple (fin' hb)
 |bl k=>
  simp only[Rep] at rd;subst rd;cases r1
  rcases hT with rfl|rfl|rfl|rfl|rfl <;> simp[vn] at hb <;> first
   | exact IsiPair.bool_str (fin' hb) | exact IsiPair.bool_int (fin hb) | exact IsiPair.bool_bool (fin hb) | exact IsiPair.bool_list (fin' hb) | exact IsiPair.bool_tuple (fin' hb)
 |int k=>
  simp only[Rep] at rd;subst rd;obtain⟨t,rfl⟩:=r1
  rcases hT with rfl|rfl|rfl|rfl|rfl <;> simp[vn] at hb <;> first
   | exact IsiPair.int_str (fin' hb) | exact IsiPair.int_int (fin hb) | exact IsiPair.int_bool (fin' hb) | exact IsiPair.int_list (fin' hb) | exact IsiPair.int_tuple (fin' hb)
 |str k=>
  simp only[Rep] at rd;subst rd;obtain⟨t,rfl⟩:=r1
  rcases hT with rfl|rfl|rfl|rfl|rfl <;> simp[vn] at hb <;> first
   | exact IsiPair.str_str (fin hb) | exact IsiPair.str_int (fin' hb) | exact IsiPair.str_bool (fin' hb) | exact IsiPair.str_list (fin' hb) | exact IsiPair.str_tuple (fin' hb)
 |lst k=>
  simp only[Rep] at rd;obtain⟨a,ws,rfl,e,t⟩:=rd;cases r1
  obtain⟨its,rr,⟨o,n,eo,c,_,_⟩,_⟩:=I.list (SqL.of (K:=X.K) (fh _ _ e))
  rcases hT with rfl|rfl|rfl|rfl|rfl <;> simp[vn] at hb <;> first
   | exact IsiPair.list_str eo c (fin' hb) | exact IsiPair.list_int eo c (fin' hb) | exact IsiPair.list_bool eo c (fin' hb) | exact IsiPair.list_list eo c (fin hb) | exact IsiPair.list_tuple eo c (fin' hb)
 |scr k=>
  simp only[Rep] at rd;obtain⟨a,rfl,e⟩:=rd;cases r1
  obtain⟨its,rr,⟨o,n,eo,c,_,_⟩,_⟩:=I.list (fh.seq e)
  rcases hT with rfl|rfl|rfl|rfl|rfl <;> simp[vn] at hb <;> first
   | exact IsiPair.list_str eo c (fin' hb) | exact IsiPair.list_int eo c (fin' hb) | exact IsiPair.list_bool eo c (fin' hb) | exact IsiPair.list_list eo c (fin hb) | exact IsiPair.list_tuple eo c (fin' hb)
 |tup k=>
  simp only[Rep] at rd;obtain⟨a,ws,rfl,e,t⟩:=rd;cases r1
  obtain⟨its,rr,⟨o,eo,c,_,_⟩,_⟩:=I.tuple (Same.seqT fh e)
  rcases hT with rfl|rfl|rfl|rfl|rfl <;> simp[vn] at hb <;> first
   | exact IsiPair.tuple_str eo c (fin' hb) | exact IsiPair.tuple_int eo c (fin' hb) | exact IsiPair.tuple_bool eo c (fin' hb) | exact IsiPair.tuple_list eo c (fin' hb) | exact IsiPair.tuple_tuple eo c (fin hb)
theorem Qn:jD X (.builtin "isinstance") Va:=⟨_,Vv,fun F H vs ds Q fh r h=>by
 unfold Va at h
 cases q:YS ds with
 |none=>rw[q] at h;exact h.elim
 |some dT=>
  obtain⟨d,T⟩:=dT
  rw[q] at h
  have e:=X6 q
  subst e
  obtain⟨v,w,rfl,r1,r2⟩:=r.two
  simp only[Rep] at r2;subst r2
  simp only at h
  cases q2:vn d T with
  |no=>rw[q2] at h;exact h.elim
  |ex c=>exfalso;unfold vn at q2;cases d <;> simp at q2 <;> (repeat (first | (split at q2) | cases q2))
  |ok b=>rw[q2] at h;exact⟨F,d,v,T,b,fh,r1,rfl,q2,h _ F H (Ext.refl fh) (by simp only[Rep])⟩⟩
noncomputable def xJ:List D→Option (List Bool)
 |[]=>some []
 |.bl b::r=>(xJ r).map (b :: ·)
 |_=>none
noncomputable def YN(ds:List D):Rs D:=match ds with
 |[.lst xs]=>match xJ xs with
  |some bs=>.ok (.bl (bs.all id))
  |none=>.no
 |_=>.no
theorem jw{K:Frag}{F:Hp}:∀{ds:List D} {bs:List Bool} {vs:List V} {us:List Value},xJ ds=some bs→Reps K F ds vs→Vals vs us→us=bs.map Value.bool
 |[],bs,vs,us,h,r,rv=>by simp only[Reps] at r;subst r;cases rv;cases h;rfl
 |.bl x::ds,ys,vs,us,h,r,rv=>by
  simp only[Reps,Rep] at r
  obtain⟨v,r',rfl,rfl,t⟩:=r
  simp only[xJ] at h
  cases q:xJ ds with
  |none=>rw[q] at h;cases h
  |some zs=>
   rw[q] at h;cases h
   cases rv with
   |cons r1 r2=>
    cases r1
    rw[jw q t r2];rfl
 |.non::_,_,_,_,h,_,_=>by cases h
 |.str _::_,_,_,_,h,_,_=>by cases h
 |.int _::_,_,_,_,h,_,_=>by cases h
 |.lst _::_,_,_,_,h,_,_=>by cases h
 |.tup _::_,_,_,_,h,_,_=>by cases h
 |.scr _::_,_,_,_,h,_,_=>by cases h
 |.raw _::_,_,_,_,h,_,_=>by cases h
 |.exc _::_,_,_,_,h,_,_=>by cases h
 |.dct _ _::_,_,_,_,h,_,_=>by cases h
theorem jF(bs:List Bool):(List.range bs.length).all (fun i=>bs.getD i false)=bs.all id:=by
 rw[Bool.eq_iff_iff,all_eq_true,all_eq_true]
 constructor
 ·intro h x hx
  obtain⟨i,hi,rfl⟩:=List.mem_iff_getElem.mp hx
  have:=h i (mem_range.mpr hi)
  simpa[getD_eq_getElem?_getD,hi] using this
 ·intro h i hi
  have hi:=mem_range.mp hi
  have:=h bs[i] (getElem_mem hi)
  simpa[getD_eq_getElem?_getD,hi] using this
theorem X2(hc:X.calm=true):CallR X (.builtin "all") (fun vs H Q=>∃a ws F ds bs,vs=[.ref a]∧H a=some (.lst ws)∧Reps X.K F ds ws∧xJ ds=some bs∧Q (.bl (bs.all id)) H):=by
 intro pins s σ H vs us Q I r h
 obtain⟨a,ws,F,ds,bs,rfl,e,t,hb,q⟩:=h
 obtain⟨u,rfl,r1⟩:=vals1 r
 cases r1
 obtain⟨its,rr,p,_⟩:=I.list (SqL.of (K:=X.K) e)
 have ei:=jw hb t rr
 subst ei
 have hh:X.A.in1.handled=none:=I.ok.hd hc
 have hlt:a<s.heap.objs.size:=I.hok.lt e
 refine call_all_walk (wpAny_pyIter_list p.isList ⟨s.heap.objs.size,_,_,_,_,_,fun i=>bs.getD i false,rfl,Walks.list hh s.heap.objs.size a (ne_of_lt hlt) (bs.map Value.bool).toArray,⟨⟨_,Heap.get?_push_size _ rfl,rfl,rfl⟩,p.isList.push _⟩,fun i v s' Q' E' hP hQ=>?_,fun h' tk hk=>?_⟩)
 ·have hP:(bs.map Value.bool)[i]?=some v:=by simpa using hP
  rw[getElem?_map] at hP
  cases z:bs[i]? with
  |none=>rw[z] at hP;cases hP
  |some b=>
   rw[z] at hP
   cases hP
   exact wpAny_truthy_bool (by simpa[getD_eq_getElem?_getD,z] using hQ)
 ·have en:(bs.map Value.bool).toArray.size=bs.length:=by simp
  rw[en,jF]
  have I1:Inv X pins σ H { s with heap:=s.heap.push { cls:=.type "list_iterator", data:=.fields #[.ref a,.int 0 0] } }:=I.kept (t':=s.toks) fun b o e=>get?_push_of_some _ e
  have fk:=I.fpOk (H':=H) (le_refl s.heap.objs.size) (I.hok.fresh (le_refl _))
  refine⟨.bl (bs.all id),H,VG (s:={ s with heap:=s.heap.push { cls:=.type "list_iterator", data:=.fields #[.ref a,.int 0 0] } }) (ch:=[s.heap.objs.size]) I1 (fun b o hb e=>hk b o hb e) (fun b hb=>?_) (fun b hb=>?_),rfl,q⟩
  ·have z:b=s.heap.objs.size:=by simpa using hb
   subst z;exact fk
  ·have z:b=s.heap.objs.size:=by simpa using hb
   subst z;exact fk.1
theorem Vu(hc:X.calm=true):jD X (.builtin "all") YN:=⟨_,X2 hc,fun F H vs ds Q fh r h=>by
 cases ds with
 |nil=>exact h.elim
 |cons d r2=>
  cases r2 with
  |cons a b=>cases d <;> exact h.elim
  |nil=>
   cases d with
   |lst xs=>
    obtain⟨v,rfl,q⟩:=r.one
    simp only[Rep] at q;obtain⟨a,ws,rfl,e,t⟩:=q
    simp only[YN] at h
    cases z:xJ xs with
    |none=>rw[z] at h;exact h.elim
    |some bs=>rw[z] at h;exact⟨a,ws,F,xs,bs,rfl,fh _ _ e,t,z,h _ F H (Ext.refl fh) (by simp only[Rep])⟩
   |_=>exact h.elim⟩
end
section
variable{X:Cx}{pos:Pos}{e tg:Expr}{es:List Expr}{fe:FE}{fs:FA}
noncomputable def rSlS:V→Option Int→Option Int→Hp→VK→Prop:=fun x lo hi H Q=>∃z,x=.str z∧z.length≤sizeLine∧Q (.str (Txt.slice z lo hi)) H
theorem sl_str:SlR X rSlS:=by
 intro pins s σ H x v vl vu lo hi sl Q I rx hs pl pu h
 obtain⟨z,rfl,hz,q⟩:=h
 obtain⟨t,rfl⟩:=rx
 refine⟨"str", _,F.slot_str_getitem.lookup,typeIs_str _ _ _,?_⟩
 obtain⟨o,e,c,d⟩:=hs
 have fin:∀t' k,EP X pins σ Q (.str (Txt.slice z lo hi) t') { s with toks:=k }:=fun t' k=>⟨.str _,H,I.tok _,⟨_,rfl⟩,q⟩
 have hl:=le_trans (Txt.slice_le z lo hi) hz
 cases pl with
 |none=>
  cases pu with
  |none=>exact wpAny_getItem_str_slice (l:=none) (u:=none) (st:=none) ⟨o,e,c,d⟩ rfl (post_val_or_str ⟨hl,fin⟩)
  |int j uj=>exact wpAny_getItem_str_slice (l:=none) (u:=some (j,uj)) (st:=none) ⟨o,e,c,d⟩ rfl (post_val_or_str ⟨hl,fin⟩)
 |int i ui=>
  cases pu with
  |none=>exact wpAny_getItem_str_slice (l:=some (i,ui)) (u:=none) (st:=none) ⟨o,e,c,d⟩ rfl (post_val_or_str ⟨hl,fin⟩)
  |int j uj=>exact wpAny_getItem_str_slice (l:=some (i,ui)) (u:=some (j,uj)) (st:=none) ⟨o,e,c,d⟩ rfl (post_val_or_str ⟨hl,fin⟩)
noncomputable def cutD(xs:List D)(lo hi:Option Int):List D:=(xs.drop (HT.sIx xs.length 0 lo)).take (HT.sIx xs.length xs.length hi-HT.sIx xs.length 0 lo)
noncomputable def slD(d:D)(lo hi:Option Int):Rs D:=match d with
 |.str x=>if x.length≤sizeLine then .ok (.str (Txt.slice x lo hi)) else .no
 |.lst ds=>.ok (.lst (cutD ds lo hi))
 |_=>.no
noncomputable abbrev FO:=DS→Rs (Option Int)
noncomputable def zL:FO:=fun _=>.ok none
noncomputable def zX(fe:FE):FO:=fun τ=>(fe τ).bind fun d=>match d with
 |.int i=>.ok (some i)
 |_=>.no
noncomputable def tOs(X:Cx)(f:FO):TO:=fun σ H Q=>∃F τ,RV X.K F τ σ H∧Ok X (f τ) fun o=>∀F' H',Ext F H F' H'→Q o H'
noncomputable def PDO(X:Cx)(e:Option Expr)(f:FO):Prop:=PO X e (tOs X f)
theorem PO.imp{e:Option Expr}{t t':TO}(h:PO X e t)(f:∀σ H Q,t' σ H Q→t σ H Q):PO X e t':=fun pins s σ H Q I q=>h pins s σ H Q I (f _ _ _ q)
theorem yD:PDO X none zL:=PO.imp V9 fun σ H Q z_=>by obtain⟨F,τ,R,h⟩:=z_;exact h F H (Ext.refl R.fh)
theorem yC(h:PDE X e fe):PDO X (some e) (zX fe):=PO.imp (V8 h) fun σ H Q z_=>by
 obtain⟨F,τ,R,h⟩:=z_
 refine tE.of R h.bind fun d v F1 H1 g x R1 r=>?_
 cases d with
 |int i=>simp only[Rep] at r;exact⟨i,r,g F1 H1 x⟩
 |_=>exact g.elim
noncomputable def eSl(fe:FE)(fl fh:FO):FE:=fun τ=>(fe τ).bind fun d=>(fl τ).bind fun l=>(fh τ).bind fun u=>slD d l u
theorem xw{lo hi:Option Expr}{fl fh:FO}{p2:Pos}(he:PDE X e fe)(hl:PDO X lo fl)(hu:PDO X hi fh):PDE X (.Subscript e (.Slice lo hi none p2) pos) (eSl fe fl fh):=
 PE.imp (Wz (sl_str.or VR) he hl hu) fun σ H Q z_=>by
  obtain⟨F,τ,R,h⟩:=z_
  refine tE.of R h.bind fun d v F1 H1 g x R1 r=>?_
  refine⟨F1,τ,R1,g.bind.imp fun l gl F2 H2 x2=>⟨F2,τ,R1.ext x2,gl.bind.imp fun u gu F3 H3 x3=>?_⟩⟩
  have f3:=x3.fh
  have x13:=x.trans (x2.trans x3)
  cases d with
  |str z=>
   simp only[Rep] at r
   obtain⟨zz,gu⟩:=zW gu
   exact .inl ⟨z,r,zz,gu _ F3 H3 x13 (by simp only[Rep])⟩
  |lst ds=>
   simp only[Rep] at r;obtain⟨a,vs,rfl,e1,t⟩:=r
   have gu:Ev X.K F H Q (.lst (cutD ds l u)):=gu
   refine .inr ⟨a,vs,rfl,SqL.of (f3 _ _ (x3.ff _ _ (x2.ff _ _ e1))),fun p hp=>gu _ _ _ (x13.trans (Ext.new f3 hp)) ?_⟩
   simp only[Rep]
   refine⟨p,_,rfl,zr,?_⟩
   have t3:Reps X.K F3 (cutD ds l u) (X0 vs l u):=by
    unfold cutD X0
    rw[← t.length]
    exact((t.mono (x2.ff.trans x3.ff)).drop _).take _
   exact t3.mono (zI (zv f3 hp))
  |_=>exact gu.elim
theorem WL{x:Str}{v:V}{u:Value}{d:D}(hg:Gl X x)(hm:X.mg x=some u)(r:RelV v u)(rd:∀F,Rep X.K F d v)(hd:(x==("__debug__" : Str))=false:=by decide):PDE X (.Name x pos) (eC d):=jU (uD hg hm r hd) rd
theorem vG{x:Str}{y:Str}{t:Tok}(hg:Gl X x)(hm:X.mg x=some (.str y t))(hd:(x==("__debug__" : Str))=false:=by decide):PDE X (.Name x pos) (eC (.str y)):=WL (v:=.str y) hg hm ⟨t,rfl⟩ (fun _=>by simp only[Rep]) hd
theorem Xa{x:Str}{y:Int}{t:Tok}(hg:Gl X x)(hm:X.mg x=some (.int y t))(hd:(x==("__debug__" : Str))=false:=by decide):PDE X (.Name x pos) (eC (.int y)):=WL (v:=.int y) hg hm ⟨t,rfl⟩ (fun _=>by simp only[Rep]) hd
theorem JM{x:Str}{T:String}(hg:Gl X x)(hm:X.mg x=none)(hv:bootBuiltins x=some (.type T))(hn:x ≠ "__name__" := by decide)(hd:(x==("__debug__" : Str))=false:=by decide):PDE X (.Name x pos) (eC (.raw (.ty T))):=
 jU (Y7 (v:=.ty T) hg hm hv rfl hn hd) fun _=>by simp only[Rep]
end
section
variable{X:Cx}{pos:Pos}{e tg:Expr}{es:List Expr}{fe:FE}{fs:FA}
noncomputable def iAnyT(K:Frag)(tl:TE):TI:=fun σ H R=>tl σ H fun x H1=>(∃a,x=.ref a∧(∃xs,SqL K H1 a xs)∧R (Itl K a) H1)∨(∃a,x=.ref a∧(∃xs,SqT K H1 a xs)∧R (Itt K a) H1)∨∃z,x=.str z∧R (Its z) H1
theorem JE{l:Expr}{tl:TE}(hl:PE X l tl):PI X tg l (iAnyT X.K tl):=by
 intro pins s σ H R I h
 refine thn (hl pins s σ H _ I h) fun v s1 z_=>?_
 obtain⟨x,H1,I1,r1,q1⟩:=z_
 rcases q1 with ⟨a,e,⟨xs,hq⟩,q⟩|⟨a,e,⟨xs,hq⟩,q⟩|⟨z,e,q⟩
 ·subst e
  cases r1
  obtain⟨its,rv,p,hz⟩:=I1.list hq
  refine wpAny_pyIter_list p.isList ?_
  refine⟨s1.heap.objs.size,[s1.heap.objs.size],_,_,H1,rfl,I1.kept (t':=s1.toks) fun b o e=>get?_push_of_some _ e,jK a _,⟨_,Heap.get?_push_size _ rfl,rfl,rfl⟩,fun b hb=>?_,q⟩
  have e:b=s1.heap.objs.size:=by simpa using hb
  subst e
  exact I1.fpOk (le_refl _) (I1.hok.fresh (le_refl _))
 ·subst e
  cases r1
  obtain⟨its,rv,p,hz⟩:=I1.tuple hq
  refine wpAny_pyIter_tuple (show s1.heap.IsTuple a its.toArray from p) ?_
  refine⟨s1.heap.objs.size,[s1.heap.objs.size],_,_,H1,rfl,I1.kept (t':=s1.toks) fun b o e=>get?_push_of_some _ e,Yr a _,⟨_,Heap.get?_push_size _ rfl,rfl,rfl⟩,fun b hb=>?_,q⟩
  have e:b=s1.heap.objs.size:=by simpa using hb
  subst e
  exact I1.fpOk (le_refl _) (I1.hok.fresh (le_refl _))
 ·subst e
  obtain⟨t,rfl⟩:=r1
  have fin:∀(ty:String),(ty = "str_ascii_iterator" ∨ ty = "str_iterator")→PIE X pins σ tg R (.ref s1.heap.objs.size) { s1 with heap:=s1.heap.push { cls:=.type ty,data:=.fields #[.str z t,.int 0 0] } }:=fun ty hty=>by
   refine⟨s1.heap.objs.size,[s1.heap.objs.size],_,_,H1,rfl,I1.kept (t':=s1.toks) fun b o e=>get?_push_of_some _ e,X9 hty,⟨_,Heap.get?_push_size _ rfl,rfl,rfl⟩,fun b hb=>?_,q⟩
   have e:b=s1.heap.objs.size:=by simpa using hb
   subst e
   exact I1.fpOk (le_refl _) (I1.hok.fresh (le_refl _))
  cases ha:z.cps.all (· < 128)
  ·exact wpAny_pyIter_wide ha (fin _ (.inr rfl))
  ·exact wpAny_pyIter_ascii ha (fin _ (.inl rfl))
noncomputable def Jj:D→Rs (List D)
 |.lst ds=>.ok ds
 |.scr ns=>.ok (ns.map .int)
 |.tup ds=>.ok ds
 |.str x=>.ok (xM x)
 |_=>.no
noncomputable def xz(fe:FE):FA:=fun τ=>(fe τ).bind Jj
theorem xT(he:PDE X e fe):PDI X tg e (xz fe):=
 PI.imp (JE he) fun σ H R z_=>by
  obtain⟨F,τ,Rv,h⟩:=z_
  refine tE.of Rv h.bind fun d v F1 H1 g x R1 r=>?_
  cases d with
  |lst ds=>
   simp only[Rep] at r;obtain⟨a,vs,rfl,q,t⟩:=r
   exact .inl ⟨a,rfl,⟨vs,SqL.of (R1.fh _ _ q)⟩,g _ F1 H1 x (Zz (SqL.of q) t)⟩
  |scr ns=>
   simp only[Rep] at r;obtain⟨a,rfl,q⟩:=r
   exact .inl ⟨a,rfl,⟨_,R1.fh.seq q⟩,g _ F1 H1 x (Zz q (Reps.ints ns))⟩
  |tup ds=>
   simp only[Rep] at r;obtain⟨a,vs,rfl,q,t⟩:=r
   exact .inr (.inl ⟨a,rfl,⟨vs,Same.seqT R1.fh q⟩,g _ F1 H1 x (Qd q t)⟩)
  |str z=>simp only[Rep] at r;exact .inr (.inr ⟨z,r,g _ F1 H1 x Qe⟩)
  |_=>exact g.elim
end
noncomputable def DefOk(P:Program)(w:World)(K:Frag)(mg:Str→Option Value)(base:Heap)(x:Str)(k n:Nat)(ps:List Str)(g:List D→Rs D):Prop:=
 ∃f fd,FnOk P w K mg base CX0 k f fd ps (spD K n g)∧Binds K fd ps []∧keepIn K (.ref f)=true∧mg x=some (.ref f)
structure ye(K:Frag)(mg:Str→Option Value)(x:Str)(st:Stmt)(f:Addr)(fd:FuncData):Prop where
 fn:Fun K x x st f fd
 at_:mg x=some (.ref f)
section
variable{P:Program}{w:World}{K:Frag}{mg:Str→Option Value}{base:Heap}
theorem DefOk.mk{x:Str}{st:Stmt}{f:Addr}{fd:FuncData}{N ps:List Str}{k n:Nat}{fb:FS}{g:List D→Rs D}(D:ye K mg x st f fd)(S:zP N ps (zi st))(hn:ps.length=n)
  (hb:∀(kV doc pm:Value) (an:Option Addr) (cdv ct:Value) (us:List Value),us.length=ps.length→bindArgs (fnOf x x (zO st) (zE st) (zi st) .none kV doc pm an cdv ct) ⟨us,[]⟩=pure (ps.zip us))
  (hbody:∀(cdv:Value) (A:Around) (outer:List Env) (s:Shared) (H:Hp) (E:XK),Room k (A.deeper (envOfC x (zi st) s.heap.objs.size f cdv)) →
   vv (jq CX0 P w K mg base N x (zi st) f cdv A outer s H E).nox (zE st) fb)
  (hg:∀ds d,ds.length=n→g ds=.ok d→xQ N.length fb ds=.ok d):DefOk P w K mg base x (k+1) n ps g:=
 ⟨f,fd,FnD.to (fnD D.fn S hn hbody) hg,D.fn.binds hb,D.fn.kp,D.at_⟩
end
section
variable{X:Cx}{pos:Pos}{e tg:Expr}{es:List Expr}{fe:FE}{fs:FA}
theorem yc{k n:Nat}{ps:List Str}{g:List D→Rs D}{x:Str}{p:Pos}(D:DefOk X.prog X.w X.K X.mg X.base x k n ps g)(hr:Room k X.A)(ha:PDA X (e::es) fs)(hfs:∀τ ds,fs τ=.ok ds→ds.length=(e::es).length)(hn:(e::es).length=n:=by rfl)(hg:Gl X x:=by rfl)(hdb:(x==("__debug__" : Str))=false:=by decide)
  (he:starEach (e::es) X.env=(false,eval e X.env)::starEach es X.env:=by rfl) (hpl:(backTo pos (starEach es X.env)).any (·.1)=false:=by rfl):PDE X (.Call (.Name x p) (e::es) [] pos) (zD g fs):=by
 obtain⟨f,fd,F,hb,hk,hm⟩:=D
 exact WN F hr hg hm hk hb ha hn hfs hdb he hpl
end
theorem wo{k:Nat}{A:Around}(r:Room k A):A.units+128<cLine:=by have:=r.un;lia
section
variable{X:Cx}{pos:Pos}{e a b:Expr}{fe fa fb:FE}
end
noncomputable def YX(K:Frag):Sp:=fun vs H Q _=>∃(a:Addr) (ns:List Int) (F:Hp),vs=[.ref a]∧Same F H∧TbT F H∧SqL K F a (ns.map V.int)∧ns.length≤63∧∀H',Q (.bl true) H'
theorem JZ{P:Program}{w:World}{K:Frag}{mg:Str→Option Value}{base:Heap}{k:Nat}{g:List D→Rs D}{p:Str}{f:Addr}{fd:FuncData}(F:FnOk P w K mg base CX0 k f fd [p] (spD K 1 g))(h:∀ns:List Int,ns.length≤63→g [.scr ns]=.ok (.bl true)) :
  FnOk P w K mg base CX0 k f fd [p] (YX K):=by
 refine F.imp fun vs H Q E z_=>?_
 obtain⟨a,ns,Fz,e,fh,tt,hS,h63,q⟩:=z_
 subst e
 refine⟨rfl,[.scr ns],Fz,fh,tt,Reps.cons (by simp only[Rep];exact⟨a,rfl,hS⟩) Reps.nil,?_⟩
 rw[h ns h63]
 intro v F' H' _ r
 simp only[Rep] at r
 subst r
 exact q H'
theorem walk{l:PySem.W.OpenLaw}{q:Program}{loose:List Str}{XP:(Str→Option Value)→Heap→Prop}{YP:World→Heap→Prop}{d:DefRec}{K:Params→Frag}{k:Nat}{p:Str}(hn:l.most=some 63)(hdf:d.params.defaults=[])(hk:Room k callerA)
  (hY:∀(w:World) (h:Heap),YP w h→(K w.params).In h)
  (F:∀(w:World) (mg:Str→Option Value) (fa:Addr) (h:Heap),(K w.params).In h→h.Ns mainGlobals mg→mg d.name=some (.ref fa) →
   ∃fd:FuncData,(∀(s:Shared) (u:Value),BindsTo s fd ⟨[u],[]⟩ [(p,u)])∧∀base:Heap,(K w.params).In base→base.Ns mainGlobals mg→FnOk l.prog w (K w.params) mg base CX0 k fa fd [p] (YX (K w.params)))
  (ht:Tabs.rows=[]:=by rfl) :
  PySem.W.WalkO q loose XP YP l.row.toRowW d [] (fun f vs=>PySem.call f vs):=
 L2.walk_of (n:=63) (k:=k) (x:=p) (CX:=fun _=>CX0) (sp:=fun w=>YX (K w.params)) hn (by decide) hdf hk hY F (fun _ H a ns hl hO hS=>⟨a,ns,H,rfl,Same.refl H,⟨(fun r hr=>by rw[ht] at hr;cases hr),fun d b e=>by rcases hO d with z|⟨_,_,z⟩ <;> (rw[z] at e;cases e)⟩,hS,hl,fun _=>rfl⟩) fun _ _ _ _ _ z=>z
section
variable{X:Cx}{pos:Pos}{e tg:Expr}{es:List Expr}{fe:FE}{fs:FA}
end
section
open PySem.SeqAt
open PySem.AutoSeq1 (wpAny_loadPart')
open PySem.MeetsSeq PySem.MeetsSeq2 PySem.MeetsSeq3
end
section
variable{X:Cx}
end
section
variable{X:Cx}
noncomputable def uk:D→List D→Option (Str×Str)
 |.str x,[.str y]=>some (x,y)
 |_,_=>none
theorem uQ{d:D}{ds:List D}{x y:Str}(h:uk d ds=some (x,y)):d=.str x∧ds=[.str y]:=by
 unfold uk at h;split at h <;> cases h;exact⟨rfl,rfl⟩
end
section
variable{xm:List Expr}{env:Env}
theorem yo{a b c}:starEach (.Constant a b c::xm) env=(false,eval (.Constant a b c) env)::starEach xm env:=rfl
end
noncomputable def Itn(K:Frag)(l:Addr):It:=
 ⟨fun k H=>∃vs,SqL K H l vs∧k<vs.length,
  fun k H y H'=>∃p v,H p=none∧(∀vs,SqL K H l vs→vs[k]?=some v)∧y=.ref p∧H'=upd H p (.tup [.int k,v]),
  fun k H=>∃vs,SqL K H l vs∧vs.length≤k⟩
theorem Xv{P:Program}{w:World}{K:Frag}{elts:List Expr}{x1}{pos:Pos}{e it l:Addr}(D:e≠it) :
  ZM P w K (.Tuple elts x1 pos) (Itn K l) [e,it] e (fun k h=>(∃old,IsEnum h e it (k:Nat) old)∧h.IsListIter it l k) where
 mem:=by simp
 obj:=fun k h ⟨⟨old,h1⟩,⟨o5,e5,c5,d5⟩⟩ b hb=>by
  simp at hb
  rcases hb with rfl|rfl
  ·exact⟨_,h1,fun v z=>by cases z⟩
  ·exact⟨_,e5,fun v z=>by rw[d5] at z;cases z⟩
 keep:=fun k h h' ⟨⟨old,h1⟩,h5⟩ hk=>⟨⟨old,hk e (by simp) _ h1⟩,h5.at fun o q=>hk it (by simp) o q⟩
 item:=by
  rintro X hP hw hK hc k pins s σ H E I hf ⟨⟨old,h1⟩,h5⟩ hg
  subst hP hw hK
  obtain⟨vs,hq,l2⟩:=hg
  obtain⟨its,rv,p,hz⟩:=I.list hq
  have hlen:=rv.length
  have hvk:vs[k]?=some vs[k]:=by simp[l2]
  obtain⟨u2,eu,ru⟩:=rv.get hvk
  refine wpAny_pyNext_enum_item (x:=u2) h1 h5 p.isList (by simpa using eu) D fun h' q1 q2 q3 q4 q5=>?_
  have np:s.heap.objs.size≠e:=ne_of_gt (Heap.lt_size h1)
  refine⟨_,rfl,wpAny_letOwnedTupleGo_enum (s:={ s with heap:=h',toks:=s.toks+1 }) q1 fun h'' z1 sb=>?_⟩
  refine⟨.ref s.heap.objs.size,upd H s.heap.objs.size (.tup [.int k,vs[k]]),?_,rfl,⟨_,vs[k],I.hok.fresh (le_refl _),fun ws hw=>by rw[I.list_inj hw hq];exact hvk,rfl,rfl⟩,⟨⟨_,by simpa using z1⟩,?_⟩,fun b hb=>?_⟩
  ·refine(VF (s:=s) (h':=h'') (t':=s.toks+1) (xs:=[.int k,vs[k]]) (ch:=[e,it]) I (fun b o hb q=>?_) hf (le_refl _) ⟨_,sb.extBut _ _ np q3,rfl,_,rfl⟩ (.cons ⟨_,rfl⟩ (.cons ru .nil)) (by show 2≤sizeLine;decide):Inv X pins σ _ { s with heap:=h'',toks:=s.toks+1 })
   simp at hb
   exact sb.extBut _ _ hb.1 (q5 b o hb.1 hb.2 q)
  ·obtain⟨o,q,r⟩:=q2
   exact⟨o,sb.extBut _ _ (Ne.symm D) q,r⟩
  ·have lt:b<s.heap.objs.size:=by
    simp at hb
    rcases hb with rfl|rfl
    ·exact Heap.lt_size h1
    ·obtain⟨o,q,r⟩:=h5
     exact Heap.lt_size q
   rw[zm (ne_of_lt lt)]
   exact(hf b hb).1
 done:=by
  rintro X hP hw hK hc k pins s σ H E I hf ⟨⟨old,h1⟩,h5⟩ hg
  subst hP hw hK
  obtain⟨vs,hq,hend⟩:=hg
  obtain⟨its,rv,p,hz⟩:=I.list hq
  have hlen:=rv.length
  obtain⟨f0,f1,f2,f3,f4,f5⟩:=hf it (by simp)
  exact wpAny_pyNext_enum_end (I.ok.hd hc) h1 h5 p.isList (by simp;lia) fun h' eb=>⟨rfl,I.turned (t':=s.toks) (fun b o hb q=>eb b o hb q) f0 f1 f3 f4 f5⟩
 self:=fun _ _ _ _ _ ⟨⟨_,h1⟩,_⟩ h=>wpAny_pyIter_enum h1 h
section
variable{X:Cx}{pos:Pos}{e a b:Expr}{es:List Expr}{fe fa fb:FE}{fs:FA}
noncomputable def Qg(K:Frag)(ta:TA):TI:=fun σ H R=>ta σ H fun vs H1=>∃l ws,vs=[.ref l]∧SqL K H1 l ws∧R (Itn K l) H1
theorem Ub{ta:TA}{p:Pos}{elts:List Expr}{x1}{tpos:Pos}(hg:Gl X "enumerate")(hm:X.mg "enumerate" = none)(ha:PA X [a] ta)(hs:starEach [a] X.env=[(false,eval a X.env)]:=by rfl) :
  PI X (.Tuple elts x1 tpos) (.Call (.Name "enumerate" p) [a] [] pos) (Qg X.K ta):=by
 intro pins s σ H R I h
 refine Call_ (jl I hg hm boot_enumerate (PyProof.Rows.callWith_type1 (thn (ha pos pins s σ H _ I h) fun us s1 z_=>?_) (by rw[hs];rfl) rfl))
 obtain⟨vs,H1,I1,r1,q1⟩:=z_
 obtain⟨l,ws,e,hq,q⟩:=q1
 subst e
 obtain⟨u1,rfl,ru⟩:=vals1 r1
 cases ru
 obtain⟨its,rr,pp,hz⟩:=I1.list hq
 refine call_enumerate_list pp.isList fun h' g1 g2 g3 g4=>?_
 have I5:Inv X pins σ H1 { s1 with heap:=h' }:=I1.kept (t':=s1.toks) g4
 refine wpAny_pyIter_enum (s:={ s1 with heap:=h' }) g1 ?_
 refine⟨s1.heap.objs.size+1,[s1.heap.objs.size+1,s1.heap.objs.size],_,_,H1,rfl,I5,Xv (l:=l) (by show(_:Nat)≠_;lia),⟨⟨_,g1⟩,g2⟩,fun b hb=>?_,q⟩
 have hb':s1.heap.objs.size≤b:=by
  simp at hb
  rcases hb with rfl|rfl <;> (show s1.heap.objs.size≤(_:Nat);lia)
 obtain⟨f0,f1,f2,f3,f4,f5⟩:=I1.fpOk (H':=H1) hb' (I1.hok.fresh hb')
 exact⟨f0,f1,f2,f3,f4,f5⟩
noncomputable def yE(n:Nat):List D→List D
 |[]=>[]
 |d::r=>.tup [.int n,d]::yE (n+1) r
theorem vM:∀(ds:List D) (n:Nat),(yE n ds).length=ds.length:=by
 intro l_
 induction l_ with
 |nil=>
  rintro _
  exact rfl
 |cons _ r ih_=>
  rintro n
  simp[yE,ih_]
theorem vN:∀{ds:List D} {n i:Nat} {p:D},(yE n ds)[i]?=some p→∃d,ds[i]?=some d∧p=.tup [.int ((n+i:Nat):Int),d]
 |[],_,_,_,h=>by simp[yE] at h
 |d::ds,n,0,p,h=>by simp[yE] at h;exact⟨d,rfl,by simpa using h.symm⟩
 |d::ds,n,i+1,p,h=>by
  obtain⟨d',h2,h3⟩:=vN (n:=n+1) (i:=i) (by simpa[yE] using h)
  exact⟨d',by simpa using h2,by rw[h3];congr 3;show((n+1+i:Nat):Int)=_;congr 1;lia⟩
theorem UR{K:Frag}{F1:Hp}{l:Addr}{ds:List D}{vs:List V}(e:SqL K F1 l vs)(r:Reps K F1 ds vs):X4 K (Itn K l) F1 (yE 0 ds):=fun i F H f1 f2=>by
 have q:SqL K H l vs:=(f1.trans f2).seq e
 have hl:=vM ds 0
 have hr:=r.length
 refine⟨fun h=>⟨vs,q,by lia⟩,fun p hp=>?_⟩
 obtain⟨d,h2,rfl⟩:=vN hp
 have l2:i<vs.length:=by have:=(List.getElem?_eq_some_iff.mp h2).1;lia
 refine⟨⟨vs,q,l2⟩,fun y H' yy=>?_⟩
 obtain⟨pa,v,hp,q',rfl,rfl⟩:=yy
 refine⟨upd F pa (.tup [.int i,v]),Ext.new f2 hp,?_⟩
 simp only[Rep]
 refine⟨pa,_,rfl,SqT.of zr,Reps.cons (by simp only[Rep,Nat.zero_add]) (Reps.cons ?_ Reps.nil)⟩
 obtain⟨v',hv',rv'⟩:=r.get h2
 have e3:=q' vs q
 rw[hv'] at e3;cases e3
 exact(rv'.mono f1).mono (zI (zv f2 hp))
noncomputable def UF:List D→Option (List D)
 |[.lst ds]=>some ds
 |_=>none
theorem UE{ds xs:List D}(h:UF ds=some xs):ds=[.lst xs]:=by
 unfold UF at h;split at h <;> cases h;rfl
noncomputable def iEn(fs:FA):FA:=fun τ=>(fs τ).bind fun ds=>match UF ds with
 |some xs=>.ok (yE 0 xs)
 |none=>.no
theorem WI{p:Pos}{elts:List Expr}{x1}{tpos:Pos}(hg:Gl X "enumerate")(hm:X.mg "enumerate" = none)(ha:PDA X [a] fs)(hs:starEach [a] X.env=[(false,eval a X.env)]:=by rfl) :
  PDI X (.Tuple elts x1 tpos) (.Call (.Name "enumerate" p) [a] [] pos) (iEn fs):=
 PI.imp (Ub hg hm ha hs) fun σ H R z_=>by
  obtain⟨F,τ,Rv,h⟩:=z_
  refine tAs.of Rv h.bind fun ds vs F1 H1 g x R1 r=>?_
  cases q1:UF ds with
  |none=>rw[q1] at g;exact g.elim
  |some xs=>
   rw[q1] at g
   have e:=UE q1
   subst e
   obtain⟨v,rfl,r1⟩:=r.one
   simp only[Rep] at r1
   obtain⟨l,ws,rfl,e1,t⟩:=r1
   exact⟨l,ws,rfl,SqL.of (R1.fh _ _ e1),g _ F1 H1 x (UR (SqL.of e1) t)⟩
noncomputable def fmtD:D→Rs D
 |.int i=>if i.natAbs.log2<1920 then .ok (.str (Str.ofString (toString i))) else .no
 |.str x=>if x.length≤sizeLine then .ok (.str x) else .no
 |_=>.no
noncomputable def eFv(fe:FE):FE:=fun τ=>(fe τ).bind fmtD
theorem WM(ha:PDE X a fa):PDE X (.FormattedValue a (-1) none pos) (eFv fa):=by
 rintro pins s σ H Q I ⟨F,τ,R,h⟩
 refine FormattedValue_plain (thn (ha pins s σ H _ I (tE.of R h.bind fun d v F1 H1 g x R1 r=>(⟨d,F1,g,x,R1,r⟩:∃d F1,Ok X (fmtD d) (Ev X.K F H Q)∧Ext F H F1 H1∧RV X.K F1 τ σ H1∧Rep X.K F1 d v))) fun v s1 z_=>?_)
 obtain⟨x,H1,I1,r1,d,F1,g,x1,R1,r⟩:=z_
 cases d with
 |int i=>
  simp only[Rep] at r;subst r
  obtain⟨t,rfl⟩:=r1
  obtain⟨z,g⟩:=zW g
  exact formatField_int_small z ⟨.str _,H1,I1.tok _,⟨_,rfl⟩,g _ F1 H1 x1 (by simp only[Rep])⟩
 |str y=>
  simp only[Rep] at r;subst r
  obtain⟨t,rfl⟩:=r1
  obtain⟨z,g⟩:=zW g
  have fin:=g (.str y) F1 H1 x1 (by simp only[Rep])
  exact wpAny_formatField_str ⟨.str _,H1,I1,⟨_,rfl⟩,fin⟩ ⟨.str _,H1,I1.tok _,⟨_,rfl⟩,fin⟩ z
 |_=>exact g.elim
noncomputable abbrev FJ:=Str→DS→Rs Str
noncomputable def UP:FJ:=fun out _=>if out.length≤sizeLine then .ok out else .no
noncomputable def Wi:D→Option Str
 |.str x=>some x
 |_=>none
theorem VQ{d:D}{x:Str}(h:Wi d=some x):d=.str x:=by
 unfold Wi at h;split at h <;> cases h;rfl
noncomputable def w5(fe:FE)(fj:FJ):FJ:=fun out τ=>(fe τ).bind fun d=>match Wi d with
 |some x=>if (out++x).length≤sizeLine then fj (out++x) τ else .no
 |none=>.no
noncomputable def PDJ(X:Cx)(es:List Expr)(fj:FJ):Prop:=∀(out:Str) (pins:List (Addr×Obj)) (s:Shared) (σ:St) (H:Hp) (Q:VK),Inv X pins σ H s →
 (∃F τ,RV X.K F τ σ H∧Ok X (fj out τ) (fun z=>∀F' H',Ext F H F' H'→Q (.str z) H')) →
  wpAny (model X.prog X.w) X.A (joinParts out (evalEach es X.env)) (EP X pins σ Q) X.xe s
theorem Uj(he:evalEach [] X.env=[]:=by rfl):PDJ X [] UP:=by
 rintro out pins s σ H Q I ⟨F,τ,R,h⟩
 rw[he]
 obtain⟨z,h⟩:=zW h
 exact joinParts_nil ⟨.str out,H,I.tok _,⟨_,rfl⟩,h F H (Ext.refl R.fh)⟩ z
theorem vE{fj:FJ}(ha:PDE X a fa)(hr:PDJ X es fj)(he:evalEach (a::es) X.env=eval a X.env::evalEach es X.env:=by rfl):PDJ X (a::es) (w5 fa fj):=by
 rintro out pins s σ H Q I ⟨F,τ,R,h⟩
 rw[he]
 refine joinParts_cons (thn (ha pins s σ H (fun v H1=>∃d F1,v=.str d∧Ext F H F1 H1∧RV X.K F1 τ σ H1∧(out++d).length≤sizeLine∧Ok X (fj (out++d) τ) (fun z=>∀F' H',Ext F H F' H'→Q (.str z) H')) I
  ⟨F,τ,R,Ok.imp (Ok.bind h) fun d g v F1 H1 x1 r=>?_⟩) fun v s1 ⟨x,H1,I1,r1,d,F1,e,x1,R1,hl,g⟩=>?_)
 ·cases q:Wi d with
  |none=>rw[q] at g;exact g.elim
  |some y=>
   rw[q] at g
   have e:=VQ q
   subst e
   simp only[Rep] at r
   by_cases z:(out++y).length≤sizeLine
   ·have g:Ok X (if (out++y).length≤sizeLine then fj (out++y) τ else .no) _:=g
    rw[if_pos z] at g
    exact⟨y,F1,r,x1,R.ext x1,z,g⟩
   ·have g:Ok X (if (out++y).length≤sizeLine then fj (out++y) τ else .no) _:=g
    rw[if_neg z] at g;exact g.elim
 ·subst e
  obtain⟨t,rfl⟩:=r1
  exact⟨hl,hr (out++d) pins s1 σ H1 Q I1 ⟨F1,τ,R1,g.imp fun z gq F' H' y=>gq F' H' (x1.trans y)⟩⟩
noncomputable def Xq(fj:FJ):FE:=fun τ=>(fj Str.empty τ).bind fun z=>.ok (.str z)
theorem WK{fj:FJ}(h:PDJ X (a::b::es) fj)(he:evalEach (a::b::es) X.env=eval a X.env::eval b X.env::evalEach es X.env:=by rfl):PDE X (.JoinedStr (a::b::es) pos) (Xq fj):=by
 rintro pins s σ H Q I ⟨F,τ,R,hq⟩
 refine JoinedStr_many ?_
 rw[← he]
 exact h _ pins s σ H Q I ⟨F,τ,R,Ok.imp (Ok.bind hq) fun z g F' H' x=>g (.str z) F' H' x (by simp only[Rep])⟩
noncomputable def Xp(d:D)(ds:List D):Rs D:=match uk d ds with
 | some (x,y)=>.ok (.bl (Txt.endswith x y))
 |none=>.no
theorem UB:MtR X "str.endswith" (fun v vs H Q=>∃x y,v=.str x∧vs=[.str y]∧Q (.bl (Txt.endswith x y)) H):=by
 intro pins s σ H v vs u us Q I r rs h
 obtain⟨x,y,rfl,rfl,q⟩:=h
 obtain⟨t,rfl⟩:=r
 obtain⟨u',rfl,t',rfl⟩:=vals1 rs
 exact SC.endswith ⟨.bl _,H,I,rfl,q⟩
theorem UD:MtD X "str.endswith" Xp:=⟨_,UB,fun F H v vs d ds Q fh r rs h=>by
 unfold Xp at h
 cases q:uk d ds with
 |none=>rw[q] at h;exact h.elim
 |some xy=>
  obtain⟨x,y⟩:=xy
  rw[q] at h
  obtain⟨rfl,rfl⟩:=uQ q
  simp only[Rep] at r;subst r
  obtain⟨w,rfl,e⟩:=rs.one
  simp only[Rep] at e;subst e
  exact⟨x,y,rfl,rfl,h _ F H (Ext.refl fh) (by simp only[Rep])⟩⟩
theorem wX:∀(l:List Str) (t:Nat),Vals (l.map V.str) (strsFrom t l):=by
 intro l_
 induction l_ with
 |nil=>
  rintro _
  exact .nil
 |cons x r ih_=>
  rintro t
  exact .cons ⟨t,rfl⟩ (ih_ (t+1))
theorem jR{K:Frag}{F:Hp}:∀(l:List Str),Reps K F (l.map D.str) (l.map V.str):=by
 intro l_
 induction l_ with
 |nil=>
  exact Reps.nil
 |cons x r ih_=>
  exact Reps.cons (by simp only[Rep]) (ih_)
noncomputable def uB(x y:Str):Prop:=0<y.length∧x.length+2≤sizeLine∧(Txt.split x y).length≤sizeLine
instance(x y:Str):Decidable (uB x y):=by unfold uB;exact inferInstance
noncomputable def yO(d:D)(ds:List D):Rs D:=match uk d ds with
 | some (x,y)=>if uB x y then .ok (.lst ((Txt.split x y).map .str)) else .no
 |none=>.no
theorem W1:MtR X "str.split" (fun v vs H Q=>∃x y,v=.str x∧vs=[.str y]∧uB x y∧∀p,H p=none→Q (.ref p) (upd H p (.lst ((Txt.split x y).map .str)))):=by
 intro pins s σ H v vs u us Q I r rs h
 obtain⟨x,y,rfl,rfl,⟨z1,z2,z3⟩,q⟩:=h
 obtain⟨t,rfl⟩:=r
 obtain⟨u',rfl,t',rfl⟩:=vals1 rs
 have hf:H s.heap.objs.size=none:=I.hok.fresh (le_refl _)
 have hy:(y.length==0)=false:=by simp;lia
 have fin:∀(ws:List Value) (tk:Nat),Vals ((Txt.split x y).map V.str) ws→EP X pins σ Q (.ref s.heap.objs.size) { s with heap:=s.heap.push { cls:=.type "list", data:=.seq ws.toArray },toks:=tk }:=fun ws tk hv=>
  ⟨.ref s.heap.objs.size,upd H s.heap.objs.size (.lst ((Txt.split x y).map .str)),I.laid (t':=tk) (fun b u e=>get?_push_of_some _ e) (le_refl _) ⟨by simpa using z3,ws,0,hv,Heap.get?_push_size _ rfl⟩,rfl,q _ hf⟩
 unfold Txt.split at fin z3
 cases c1:(decide (x.length<y.length)||decide (Builtin.Str.strKind x<Builtin.Str.strKind y)) with
 |true=>
  rw[c1] at fin
  refine call_meets F.slot_str_split rfl F.entry_str_split (F.args_str_split_2 _ _) (meets_str_split_cannot_occur x y t t' c1) ?_
  exact fin [.str x t] s.toks (.cons ⟨t,rfl⟩ .nil)
 |false=>
  rw[c1] at fin z3
  cases c2:(Builtin.Str.occurrences x y 0 x.length (x.length+1)).isEmpty with
  |true=>
   rw[c2] at fin
   refine call_meets F.slot_str_split rfl F.entry_str_split (F.args_str_split_2 _ _) (meets_str_split_not_found x y t t' c1 hy c2) ?_
   exact fin [.str x t] s.toks (.cons ⟨t,rfl⟩ .nil)
  |false=>
   rw[c2] at fin z3
   refine call_meets F.slot_str_split rfl F.entry_str_split (F.args_str_split_2 _ _) (meets_str_split_sep x y t t' c1 hy c2 (by lia) z3) ?_
   exact fin _ _ (wX _ _)
theorem vJ:MtD X "str.split" yO:=⟨_,W1,fun F H v vs d ds Q fh r rs h=>by
 unfold yO at h
 cases q:uk d ds with
 |none=>rw[q] at h;exact h.elim
 |some xy=>
  obtain⟨x,y⟩:=xy
  rw[q] at h
  obtain⟨rfl,rfl⟩:=uQ q
  simp only[Rep] at r;subst r
  obtain⟨w,rfl,e⟩:=rs.one
  simp only[Rep] at e;subst e
  obtain⟨z,h⟩:=zW h
  refine⟨x,y,rfl,rfl,z,fun p hp=>h _ _ _ (Ext.new fh hp) ?_⟩
  simp only[Rep]
  exact⟨p,_,rfl,zr,jR _⟩⟩
noncomputable def u5(d:D)(ds:List D):Rs D:=match uk d ds with
 | some (x,y)=>if 0<y.length∧x.length≤sizeLine then .ok (.tup [.str (Txt.partition x y).1,.str (Txt.partition x y).2.1,.str (Txt.partition x y).2.2]) else .no
 |none=>.no
theorem Uz:MtR X "str.partition" (fun v vs H Q=>∃x y,v=.str x∧vs=[.str y]∧(0<y.length∧x.length≤sizeLine)∧∀p,H p=none→Q (.ref p) (upd H p (.tup [.str (Txt.partition x y).1,.str (Txt.partition x y).2.1,.str (Txt.partition x y).2.2]))):=by
 intro pins s σ H v vs u us Q I r rs h
 obtain⟨x,y,rfl,rfl,⟨z1,z2⟩,q⟩:=h
 obtain⟨t,rfl⟩:=r
 obtain⟨u',rfl,t',rfl⟩:=vals1 rs
 have hf:H s.heap.objs.size=none:=I.hok.fresh (le_refl _)
 have fin:∀(ws:List Value) (tk:Nat),Vals [V.str (Txt.partition x y).1,V.str (Txt.partition x y).2.1,V.str (Txt.partition x y).2.2] ws→EP X pins σ Q (.ref s.heap.objs.size) { s with heap:=s.heap.push { cls:=.type "tuple", data:=.seq ws.toArray },toks:=tk }:=fun ws tk hv=>
  ⟨.ref s.heap.objs.size,upd H s.heap.objs.size (.tup _),I.laid (t':=tk) (fun b u e=>get?_push_of_some _ e) (le_refl _) ⟨by show 3≤sizeLine;decide,ws,hv,⟨_,Heap.get?_push_size _ rfl,rfl,_,rfl⟩⟩,rfl,q _ hf⟩
 refine call_meets F.slot_str_partition rfl F.entry_str_partition (F.args_str_partition_2 _ _) (meets_str_partition x y t t' (by simp;lia) z2) ?_
 unfold Txt.partition at fin
 cases q2:Builtin.Str.occurrences x y 0 x.length 1 with
 |nil=>rw[q2] at fin;exact fin [.str x t,.str Str.empty s.toks,.str Str.empty s.toks] _ (.cons ⟨_,rfl⟩ (.cons ⟨_,rfl⟩ (.cons ⟨_,rfl⟩ .nil)))
 |cons i rr=>rw[q2] at fin;exact fin [.str (Builtin.Str.strSub x 0 i) s.toks,.str y t',.str (Builtin.Str.strSub x (i+y.length) x.length) (s.toks+1)] _ (.cons ⟨_,rfl⟩ (.cons ⟨_,rfl⟩ (.cons ⟨_,rfl⟩ .nil)))
theorem UC:MtD X "str.partition" u5:=⟨_,Uz,fun F H v vs d ds Q fh r rs h=>by
 unfold u5 at h
 cases q:uk d ds with
 |none=>rw[q] at h;exact h.elim
 |some xy=>
  obtain⟨x,y⟩:=xy
  rw[q] at h
  obtain⟨rfl,rfl⟩:=uQ q
  simp only[Rep] at r;subst r
  obtain⟨w,rfl,e⟩:=rs.one
  simp only[Rep] at e;subst e
  obtain⟨z,h⟩:=zW h
  refine⟨x,y,rfl,rfl,z,fun p hp=>h _ _ _ (Ext.new fh hp) ?_⟩
  simp only[Rep]
  exact⟨p,_,rfl,SqT.of zr,Reps.cons (by simp only[Rep]) (Reps.cons (by simp only[Rep]) (Reps.cons (by simp only[Rep]) Reps.nil))⟩⟩
noncomputable def VN:List D→Option Str
 |[.str x]=>some x
 |_=>none
theorem VM{ds:List D}{x:Str}(h:VN ds=some x):ds=[.str x]:=by
 unfold VN at h;split at h <;> cases h;rfl
noncomputable def uo(ds:List D):Rs D:=match VN ds with
 |some x=>if x.length≤640 then (match PySem.intText? x with
  |some n=>.ok (.int n)
  |none=>.no) else .no
 |none=>.no
theorem Xt:jD X (.type "int") uo:=⟨fun vs H Q=>∃x n,vs=[.str x]∧PySem.intText? x=some n∧x.length≤640∧Q (.int n) H,fun pins s σ H xs us Q I r z_=>by
  obtain⟨x,n,e,h1,h2,q⟩:=z_
  subst e
  obtain⟨u,rfl,t,rfl⟩:=vals1 r
  exact PySem.W.KIN.call_text h1 h2 ⟨.int n,H,I.tok _,⟨_,rfl⟩,q⟩,fun F H vs ds Q fh r h=>by
  unfold uo at h
  cases q1:VN ds with
  |none=>rw[q1] at h;exact h.elim
  |some x=>
   rw[q1] at h
   have e:=VM q1
   subst e
   obtain⟨v,rfl,q⟩:=r.one
   simp only[Rep] at q;subst q
   by_cases z:x.length≤640
   ·simp only[if_pos z] at h
    cases q2:PySem.intText? x with
    |none=>rw[q2] at h;exact h.elim
    |some n=>
     rw[q2] at h
     exact⟨x,n,rfl,q2,z,h _ F H (Ext.refl fh) (by simp only[Rep])⟩
   ·simp only[if_neg z] at h;exact h.elim⟩
end
theorem obj_there{P:Program}{w:World}{H:Hp}{h:Heap}{a:Addr}{o:HO}(x:ObjOk P w H h a o):∃ob,h.get? a=some ob:=by
 cases o with
 |lst xs=>obtain⟨_,_,_,_,e⟩:=x;exact⟨_,e⟩
 |tup xs=>obtain⟨_,_,_,ob,e,_⟩:=x;exact⟨_,e⟩
 |dK kvs=>obtain⟨_,_,_,_,o,_,_,e,_⟩:=x;exact⟨_,e⟩
 |dT kvs=>obtain⟨_,_,_,_,o,_,_,e,_⟩:=x;exact⟨_,e⟩
 |set S n=>obtain⟨o,_,_,_,e,_⟩:=x;exact⟨_,e⟩
 |ins C dx fs=>obtain⟨_,_,_,e,_⟩:=x;exact⟨_,e⟩
 |own y=>exact x
 |xd fs=>obtain⟨_,⟨_,_,_,e,_⟩,_⟩:=x;exact⟨_,e⟩
 |rng lo hi=>obtain⟨_,_,_,e⟩:=x;exact⟨_,e⟩
 |frz ob u=>obtain⟨e,_⟩:=x;exact⟨_,e⟩
 |tbl ps=>exact⟨_,(show h.get? a=some _ from x)⟩
 |met f y=>exact⟨_,(show h.get? a=some _ from x)⟩
 |ext φ=>obtain⟨_,q,_⟩:=x;exact q
section
variable{X:Cx}{pins:List (Addr×Obj)}{σ:St}{H:Hp}{s:Shared}{h':Heap}
theorem ZE(I:Inv X pins σ H s){b:Addr}(e:s.heap.get? b=none):H b=none:=by
 cases q:H b with
 |none=>rfl
 |some o=>obtain⟨ob,z⟩:=obj_there (I.hok b o q);rw[e] at z;cases z
theorem vo(I:Inv X pins σ H s)(hx:X.ex=[]){b:Addr}(e:s.heap.get? b=none):X.s₀.heap.get? b=none:=by
 cases q:X.s₀.heap.get? b with
 |none=>rfl
 |some o=>obtain⟨ob,z⟩:=I.base.there b o q (by rw[hx];simp);rw[e] at z;cases z
theorem jg(I:Inv X pins σ H s)(hx:X.ex=[]){b:Addr}(e:s.heap.get? b=none):Nw X H b:=
 ⟨ZE I e,vo I hx e,fun p hp z=>by
  have:=(I.pin p (mem_append_left _ hp)).1
  rw[z,e] at this;cases this⟩
theorem Xm(I:Inv X pins σ H s){b:Addr}(hb:b∈X.fs):H b=none:=by
 obtain⟨_,o,ho,_⟩:=I.ok.funs.mem hb
 exact I.base.free b o ho (I.ok.frf b hb) fun z=>I.ok.exfs b z hb
theorem Jb{ch:List Addr}{t':Nat}(I:Inv X pins σ H s)(hx:X.ex=[])(hch:∀b∈ch,X.s₀.heap.get? b=none∧H b=none∧b≠X.env.locals∧b∉X.fs∧(∀x c,X.env.cells.lookup x=some c→c≠b)∧∀p∈X.pn++pins,p.1≠b)
  (keep:∀b o,b≠X.env.locals→b∉X.fs→b∉ch→s.heap.get? b=some o→h'.get? b=some o)
  (slot:∀b o,(b=X.env.locals∨b∈X.fs)→s.heap.get? b=some o→∃sl,h'.get? b=some { o with slots:=sl }):Inv X pins σ H { s with heap:=h',toks:=t' }:=by
 let X':Cx:={ X with ex:=ch }
 have ok':X'.Ok:=⟨I.ok.mod,I.ok.kind,I.ok.glob,I.ok.blt,I.ok.above,I.ok.inj,I.ok.has,I.ok.cab,I.ok.hd,I.ok.frames,I.ok.stk,fun b hb=>⟨(hch b hb).2.2.1,(hch b hb).2.2.2.2.1⟩,I.ok.bs,I.ok.bsz,(fun b o e hb=>nomatch (hch b hb).1.symm.trans (I.ok.bs b o e).1),fun b hb=>(hch b hb).2.2.2.1,I.ok.funs,I.ok.frf⟩
 have hx':∀b:Addr,b∉X.ex:=fun b=>by rw[hx];simp
 have I':Inv X' pins σ H s:=⟨ok',I.os,I.bare,⟨fun b o e n h1 _=>I.base.keep b o e n h1 (hx' b),fun b o e n h1 _=>I.base.slot b o e n h1 (hx' b),fun b o e n _=>I.base.free b o e n (hx' b),fun b o e _=>I.base.there b o e (hx' b),I.base.tups,I.base.frzs,I.base.tbls⟩,
  I.loc,I.cell,I.free,I.freeC,I.pin,I.hok,I.len⟩
 have hok:HOk X.prog X.w H h':=fun b u e=>(I.hok b u e).stay (fun c v hc q=>keep c v (fun z=>?_) (fun z=>?_) (fun z=>?_) q) (fun _ q=>q) fun _ _ q=>q
 have J:=I'.step (g':=s.gens) (d':=s.drawn) (t':=t') (h':=h') (H':=H) (ch:=ch) (fun b hb=>⟨.inl hb,(hch b hb).2.2.1,(hch b hb).2.2.2.2.1,(hch b hb).2.2.2.2.2⟩) (fun b o h1 h2 h3 e _=>keep b o h1 h2 h3 e) (fun b o _ h2 _ e _=>slot b o (.inr h2) e) (fun _ _ _ _ n=>n)
  (fun b o h3 e=>?_) (fun _ _ e=>e) (fun _ _ _ e=>e) (fun b ps e=>⟨#[],by rw[e];simp⟩) (fun m ⟨o,es,ep,ho,r⟩=>?_) hok I.bare
 ·have nch:∀b o,X.s₀.heap.get? b=some o→b∉ch:=fun b o e hb=>by rw[(hch b hb).1] at e;cases e
  exact⟨I.ok,J.os,J.bare,⟨fun b o e n h1 _=>J.base.keep b o e n h1 (nch b o e),fun b o e n h1 _=>J.base.slot b o e n h1 (nch b o e),fun b o e n _=>J.base.free b o e n (nch b o e),fun b o e _=>J.base.there b o e (nch b o e),J.base.tups,J.base.frzs,J.base.tbls⟩,
   J.loc,J.cell,J.free,J.freeC,J.pin,J.hok,J.len⟩
 ·by_cases h1:b=X.env.locals∨b∈X.fs
  ·obtain⟨sl,q⟩:=slot b o h1 e;exact⟨_,q⟩
  ·exact⟨o,keep b o (fun z=>h1 (.inl z)) (fun z=>h1 (.inr z)) h3 e⟩
 ·obtain⟨sl,q⟩:=slot _ o (.inl rfl) ho
  exact⟨_,es,ep,q,r⟩
 all_goals
  rcases hc with hc|hc
  ·subst hc
   first
    | (subst z;rw[I.free] at e;cases e)
    | (rw[Xm I z] at e;cases e)
    | (rw[(hch _ z).2.1] at e;cases e)
  ·first
    | (subst z;rw[I.free] at hc;cases hc)
    | (rw[Xm I z] at hc;cases hc)
    | (rw[(hch _ z).2.1] at hc;cases hc)
structure Fst(X:Cx):Prop where
 ex:X.ex=[]
 stk:X.stack=X.env::X.outer
 fr:X.env.frame=some X.env.locals
theorem Fst.mem{X:Cx}(D:Fst X){b:Addr}:b∈frs X.stack↔b=X.env.locals∨b∈X.fs:=by
 rw[D.stk]
 unfold frs
 rw[List.filterMap_cons,D.fr]
 show b∈X.env.locals::_↔_
 rw[mem_cons];exact Iff.rfl
theorem Xs(D:Fst X)(I:Inv X pins σ H s){b:Addr}{o:Obj}{vs:Array Value}(n:Nw X H b)(hp:∀p∈pins,p.1≠b)(e:s.heap.get? b=some o)(d:o.data=.fields vs) :
  X.s₀.heap.get? b=none∧H b=none∧b≠X.env.locals∧b∉X.fs∧(∀x c,X.env.cells.lookup x=some c→c≠b)∧∀p∈X.pn++pins,p.1≠b:=by
 refine⟨n.2.1,n.1,fun z=>?_,fun z=>?_,fun x c hc z=>?_,fun p hp'=>(mem_append.mp hp').elim (n.2.2 p) (hp p)⟩
 ·obtain⟨m,⟨o',es,ep,ho',hd',_⟩,_⟩:=I.loc
  rw[z,ho'] at e;cases e;rw[hd'] at d;cases d
 ·obtain⟨_,o',ho',hd'⟩:=I.stack.mem (show b∈frs X.stack from D.mem.mpr (.inr z))
  rw[ho'] at e;cases e;exact hd' _ d
 ·obtain⟨v,o',ho',hd'⟩:=I.cell x c hc
  rw[z,e] at ho';cases ho';rw[d] at hd';cases hd'
theorem vy{l:List Addr}{h h1:Heap}(so:Heap.SlotsOnly l h h1){b:Addr}{o:Obj}(hb:b∉l)(e:h.get? b=some o):h1.get? b=some o:=(so.2.1 b hb).trans e
end
section
variable{X:Cx}{pins:List (Addr×Obj)}{σ:St}{H:Hp}{s:Shared}{h':Heap}{a:Addr}{cls:Value}
noncomputable def TrAt(X:Cx)(H:Hp)(h:Heap)(a:Addr)(cls fl:Value):Prop:=Nw X H a∧∃oe vs T oT ts,h.get? a=some oe∧oe.cls=cls∧oe.dict=none∧oe.data=.fields vs ∧
 vs[1]?=some (.ref T)∧Nw X H T∧T≠a∧h.get? T=some oT∧oT.data=.fields ts∧ts[3]?=some fl∧vs[2]?=some .none
theorem TrAt.exc{h:Heap}{fl:Value}(x:TrAt X H h a cls fl):jC X H h a cls:=by
 obtain⟨n,oe,vs,T,oT,ts,e1,e2,e0,e3,e4,e5,e6,e7,e8,e9⟩:=x
 exact⟨n,oe,vs,e1,e2,e0,e3,.inr ⟨T,oT,ts,_,e4,e5,e6,e7,e8,e9.1⟩,e9.2⟩
theorem Vp(o:Obj)(f:Array Value→Array Value):(Obj.mapFields f o).dict=o.dict:=by
 unfold Obj.mapFields;split <;> rfl
theorem xo{vs:Array Value}{i:Nat}{v:Value}(h:vs[i]?=some v):i<vs.size:=by
 rcases Nat.lt_or_ge i vs.size with z|z
 ·exact z
 ·rw[Array.getElem?_eq_none z] at h;cases h
variable{M:Model}{A:Around}{E:Value→Shared→Prop}{Q:Unit→Shared→Prop}
theorem np(b:Addr):∀p∈([]:List (Addr×Obj)),p.1≠b:=fun p hp=>nomatch hp
theorem YQ{b:Addr}{o:Obj}{vs:Array Value}(f:Array Value→Array Value)(D:Fst X)(I:Inv X [] σ H s)(n:Nw X H b)(e:s.heap.get? b=some o)(d:o.data=.fields vs):Inv X [] σ H { s with heap:=s.heap.update b (Obj.mapFields f) }:=by
 refine Jb (ch:=[b]) (t':=s.toks) I D.ex (fun c hc=>?_) (fun c u h1 h2 h3 q=>?_) fun c u hc q=>⟨u.slots,?_⟩
 ·have:c=b:=by simpa using hc
  subst this
  exact Xs D I n (np c) e d
 ·rw[Heap.get?_update_other _ _ (fun z=>h3 (by simp[z]))];exact q
 ·have:=Xs D I n (np b) e d
  rw[Heap.get?_update_other _ _ (fun z=>?_)]
  ·exact q
  ·subst z
   rcases hc with hc|hc
   ·exact this.2.2.1 hc
   ·exact this.2.2.2.1 hc
theorem uc{h:Heap}{b:Addr}{o:Obj}{vs:Array Value}{f:Array Value→Array Value}(e:h.get? b=some o)(d:o.data=.fields vs):(h.update b (Obj.mapFields f)).get? b=some (Obj.mapFields f o):=
 Heap.get?_update_self _ e (Obj.isFreed_of_fields (Obj.data_mapFields d f))
theorem ue{fl:Value}(D:Fst X)(I:Inv X [] σ H s)(x:TrAt X H s.heap a cls fl)(k:∀h',Inv X [] σ H { s with heap:=h' }→TrAt X H h' a cls .none→Q () { s with heap:=h' }):wpAny M A (setFlight (.ref a) none) Q E s:=by
 obtain⟨na,oe,vs,T,oT,ts,e1,e2,e0,e3,e4,nT,ne,eT,dT,e9⟩:=x
 refine wpAny_setFlight_none e1 e3 e4 eT dT (xo e9.1) ?_
 refine k _ (YQ _ D I nT eT dT) ⟨na,oe,vs,T,_,_,?_,e2,e0,e3,e4,nT,ne,uc eT dT,Obj.data_mapFields dT _,?_,e9.2⟩
 ·rw[Heap.get?_update_other _ _ ne];exact e1
 ·simp[Array.getElem?_setIfInBounds,xo e9.1]
theorem Yh{oe:Obj}{vs:Array Value}{head:Value}{hn:Bool}(hA:A.frames=some X.stack)(D:Fst X)(I:Inv X [] σ H s)(na:Nw X H a)(e1:s.heap.get? a=some oe)(e2:oe.cls=cls)(e0:oe.dict=none)(e3:oe.data=.fields vs)(hv:1<vs.size)(hv2:vs[2]?=some .none)
  (k:∀h',Inv X [] σ H { s with heap:=h' }→TrAt X H h' a cls (rawInt X.env.locals)→Q () { s with heap:=h' }) :
  wpAny M A (do
   let f ← PySem.frameOf X.env
   let pl ← entryPlaceOf X.env.locals hn
   let b ← EntryCells.newEntry head f Value.none (rawInt X.env.locals) Value.none pl
   setField (.ref a) 1 b) Q E s:=by
 refine wpAny_bind (wpAny_frameOf_fun (base:=X.base) (outer:=X.outer) (by rw[← D.stk];exact hA) (by rw[← D.stk];exact I.stack) D.fr fun h1 so=>?_)
 have ca:=Xs D I na (np a) e1 e3
 have nf:a∉frs X.stack:=fun z=>(D.mem.mp z).elim ca.2.2.1 ca.2.2.2.1
 have so':Heap.SlotsOnly (frs X.stack) s.heap h1:=by rw[D.stk];exact so
 have I1:Inv X [] σ H { s with heap:=h1 }:=Jb (ch:=[]) (t':=s.toks) I D.ex (fun c hc=>nomatch hc) (fun c u z1 z2 _ q=>vy so' (fun z=>(D.mem.mp z).elim z1 z2) q) fun c u _ q=>so'.2.2 c u q
 have f1:h1.get? a=some oe:=vy so' nf e1
 refine wpAny_bind (wpAny_entryPlaceOf fun pl hp=>wpAny_bind ?_)
 unfold EntryCells.newEntry newFields
 refine wpAny_newObj_type ?_ (hp.sizeOk5 _ _ _ _ _)
 have I2:=I1.kept (t':=s.toks) (h':=h1.push { cls:=Value.type "traceback", data:=Data.fields ([head,.ref X.env.locals,Value.none,rawInt X.env.locals,Value.none]++if pl.isEmpty=true then List.replicate 6 Value.none else pl).toArray }) fun b u e=>get?_push_of_some _ e
 have f2:=get?_push_of_some { cls:=Value.type "traceback", data:=Data.fields ([head,.ref X.env.locals,Value.none,rawInt X.env.locals,Value.none]++if pl.isEmpty=true then List.replicate 6 Value.none else pl).toArray } f1
 have nT:Nw X H h1.objs.size:=jg I1 D.ex (by
  cases q:h1.get? h1.objs.size with
  |none=>rfl
  |some u=>exact absurd (Heap.lt_size q) (lt_irrefl _))
 have ne:h1.objs.size≠a:=ne_of_gt (Heap.lt_size f1)
 refine wpAny_setField f2 e3 hv ?_
 refine k _ (YQ _ D I2 na f2 e3) ⟨na,_,_,h1.objs.size,{ cls:=Value.type "traceback", data:=Data.fields ([head,.ref X.env.locals,Value.none,rawInt X.env.locals,Value.none]++if pl.isEmpty=true then List.replicate 6 Value.none else pl).toArray },_,uc f2 e3,(Obj.cls_mapFields _ _).trans e2,(Vp _ _).trans e0,Obj.data_mapFields e3 _,?_,nT,ne,?_,rfl,?_,?_⟩
 ·simp[Array.getElem?_setIfInBounds,hv]
 ·rw[Heap.get?_update_other _ _ (Ne.symm ne)];exact Heap.get?_push_size _ rfl
 ·simp
 ·simpa[Array.getElem?_setIfInBounds] using hv2
theorem Zt(hA:A.frames=some X.stack)(D:Fst X)(I:Inv X [] σ H s)(x:jC X H s.heap a cls)
  (k:∀{fl:Value} h',Inv X [] σ H { s with heap:=h' }→TrAt X H h' a cls fl→Q () { s with heap:=h' }):wpAny M A (noteFrame (.ref a) X.env) Q E s:=by
 obtain⟨na,oe,vs,e1,e2,e0,e3,alt,v2⟩:=x
 unfold noteFrame
 rw[D.fr]
 rcases alt with e4|⟨T,oT,ts,fl,e4,nT,ne,eT,dT,e9⟩
 ·refine wpAny_bind (wpAny_field e1 e3 e4 ?_)
  exact Yh (hn:=false) hA D I na e1 e2 e0 e3 (xo e4) v2 k
 ·refine wpAny_bind (wpAny_field e1 e3 e4 ?_)
  refine wpAny_bind (wpAny_field eT dT e9 ?_)
  by_cases hf:(fl==rawInt X.env.locals)=true
  ·rw[if_pos hf]
   exact wpAny_pure (k s.heap I ⟨na,oe,vs,T,oT,ts,e1,e2,e0,e3,e4,nT,ne,eT,dT,e9,v2⟩)
  rw[if_neg hf]
  refine wpAny_bind (wpAny_setField eT dT (xo e9) ?_)
  have I1:=YQ (fun v=>v.setIfInBounds 3 Value.none) D I nT eT dT
  exact Yh (hn:=true) (s:={ s with heap:=s.heap.update T (Obj.mapFields fun v=>v.setIfInBounds 3 Value.none) }) hA D I1 na (by rw[Heap.get?_update_other _ _ ne];exact e1) e2 e0 e3 (xo e4) v2 k
theorem W5(hA:A.frames=some X.stack)(D:Fst X)(I:Inv X [] σ H s)(x:jC X H s.heap a cls)
  (k:∀h',Inv X [] σ H { s with heap:=h' }→TrAt X H h' a cls .none→Q () { s with heap:=h' }):wpAny M A (leaving X.env (.ref a)) Q E s:=by
 unfold leaving
 refine wpAny_bind (Zt hA D I x fun h1 I1 x1=>?_)
 exact ue (s:={ s with heap:=h1 }) D I1 x1 fun h2 I2 x2=>k h2 I2 x2
noncomputable def CXD(P:Program)(w:World):CXT:=fun outer H s E e s'=>∃a cls H',e=.ref a∧s'.os=s.os∧AllBare s'.gens∧Un (frs outer) [] H H' s.heap s'.heap∧HOk P w H' s'.heap ∧
 (∃oe vs T oT ts,s'.heap.get? a=some oe∧oe.cls=cls∧oe.dict=none∧oe.data=.fields vs∧vs[1]?=some (.ref T)∧T≠a∧s'.heap.get? T=some oT∧oT.data=.fields ts∧ts[3]?=some .none ∧
  H' a=none∧s.heap.get? a=none∧H' T=none∧s.heap.get? T=none∧vs[2]?=some .none)∧E cls none H'
noncomputable def spX(K:Frag)(n:Nat)(g:List D→Rs D):Sp:=fun vs H Q E=>vs.length=n∧∃ds F,Same F H∧TbT F H∧Reps K F ds vs∧match g ds with
 |.ok d=>Ev K F H Q d
 |.ex c=>∀F' H' cls,Ext F H F' H'→nsIn K mainGlobals c=some (some cls)→E cls none H'
 |.no=>False
noncomputable def XV(X:Cx)(σ:St):XK:=fun cls _ H=>∀s a,Inv X [] σ H s→jC X H s.heap a cls→X.xe (.ref a) s
theorem XA.xv{c:Str}(h:XA X c σ H){cls:Value}(e:nsIn X.K mainGlobals c=some (some cls)):XV X σ cls none H:=fun s a I x=>h s a cls e I x
theorem Inv.nil(I:Inv X pins σ H s):Inv X [] σ H s:=⟨I.ok,I.os,I.bare,I.base,I.loc,I.cell,I.free,I.freeC,fun p hp=>I.pin p (mem_append_left _ (by simpa using hp)),I.hok,I.len⟩
theorem VB(hx:X.ex=[])(I:Inv X pins σ H s){E:XK}{e:Value}{s':Shared}(h:CXD X.prog X.w X.stack H s E e s'):∃a cls H',e=.ref a∧Inv X pins σ H' s'∧TrAt X H' s'.heap a cls .none∧(∀p∈pins,p.1≠a)∧E cls none H':=by
 obtain⟨a,cls,H',rfl,os,bare,un,hok,⟨oe,vs,T,oT,ts,e1,e2,e0,e3,e4,e5,e6,e7,e8,z1,z2,z3,z4,z5⟩,q⟩:=h
 obtain⟨hh,g,d,t,os'⟩:=s'
 obtain rfl:os'=s.os:=os
 have n1:∀{b:Addr},s.heap.get? b=none→H' b=none→Nw X H' b:=fun {b} z n=>⟨n,vo I hx z,fun p hp y=>by
  have:=(I.pin p (mem_append_left _ hp)).1
  rw[y,z] at this;cases this⟩
 refine⟨a,cls,H',rfl,I.call (h':=hh) (g':=g) (d':=d) (t':=t) (ch:=[]) un hok bare (fun b z=>absurd z (by simp)),⟨n1 z2 z1,oe,vs,T,oT,ts,e1,e2,e0,e3,e4,n1 z4 z3,e5,e6,e7,e8,z5⟩,fun p hp y=>?_,q⟩
 have:=(I.pin p (mem_append_right _ hp)).1
 rw[y,z2] at this;cases this
theorem passX(hx:X.ex=[]){σ:St}(H:Hp)(s:Shared)(I:Inv X pins σ H s){e:Value}{s':Shared}(h:CXD X.prog X.w X.stack H s (XV X σ) e s'):X.xe e s':=by
 obtain⟨a,cls,H',rfl,J,x,_,q⟩:=VB hx I h
 exact q s' a (Inv.nil J) x.exc
end
section
variable{P:Program}{w:World}{K:Frag}{mg:Str→Option Value}{base:Heap}
theorem fnX{x qual:Str}{st:Stmt}{f:Addr}{fd:FuncData}{N ps:List Str}{k n:Nat}{fb:FS}(F:Fun K x qual st f fd)(S:zP N ps (zi st))(hn:ps.length=n)
  (hbody:∀(cdv:Value) (A:Around) (outer:List Env) (s:Shared) (H:Hp) (E:XK),Room k (A.deeper (envOfC qual (zi st) s.heap.objs.size f cdv)) →
   vv (jq (CXD P w) P w K mg base N qual (zi st) f cdv A outer s H E) (zE st) fb):FnOk P w K mg base (CXD P w) (k+1) f fd ps (spX K n (xQ N.length fb)):=by
 obtain⟨oc,od,kV,doc,pm,an,cdv,ct,osl,rfl,lk,hcd⟩:=F.ex
 refine Jm lk hcd S (fun vs H Q E h=>by rw[hn];exact h.1) fun A outer s H vs Q E hr h=>⟨_,hbody cdv A outer s H E hr,?_⟩
 obtain⟨hl,ds,Fz,fh,tt,r,h⟩:=h
 refine⟨H,Fz,Fz,zR N.length ds,ZW fh tt r,?_⟩
 unfold xQ at h
 cases q:fb (zR N.length ds) with
 |nx τ=>rw[q] at h;exact fun σ F' H' ff RR=>h .non F' H' RR.out (by simp only[Rep])
 |rt d=>rw[q] at h;exact fun v F' H' x rr=>h v F' H' x rr
 |ro d τ=>rw[q] at h;exact fun v σ F' H' ff RR rr=>h v F' H' RR.out rr
 |rb d τ=>rw[q] at h;exact h.elim
 |bk τ=>rw[q] at h;exact h.elim
 |ct τ=>rw[q] at h;exact h.elim
 |ex c=>rw[q] at h;exact h.elim
 |no=>rw[q] at h;exact h.elim
 |rs c τ=>
  rw[q] at h
  intro σ F' H' ff RR s2 a cls hc I x
  let X:Cx:=jq (CXD P w) P w K mg base N qual (zi st) f cdv A outer s H E
  have D:Fst X:=⟨rfl,rfl,rfl⟩
  refine W5 (X:=X) I.ok.frames D I x fun h3 J t=>?_
  obtain⟨na,oe,vs,T,oT,ts,g1,g2,g0,g3,g4,g5,g6,g7,g8,g9⟩:=t
  exact⟨a,cls,H',rfl,J.os,J.bare,J.base,J.hok,⟨oe,vs,T,oT,ts,g1,g2,g0,g3,g4,g6,g7,g8,g9.1,na.1,na.2.1,g5.1,g5.2.1,g9.2⟩,h F' H' cls RR.out hc⟩
end
abbrev VE:List Value:=[Value.type "ValueError", Value.type "Exception", Value.type "BaseException", Value.type "object"]
theorem XY{K:Frag}{h:Heap}{C:Addr}{bmB:List Value}{newId:String}(KX:K.In h)(e:excIn K C bmB newId=true):∃bm N nm q bs hdct sn sub ab col dd k0 k1 k2 k3 k5 mN,
  h.get? C=some (excClassObj nm q C N bs bm hdct sn sub ab col dd k0 k1 k2 k3 k5 newId)∧h.Ns N mN∧mN (Str.ofString "__init__")=none∧OwnTail h bmB bm:=by
 unfold excIn at e
 split at e
 ·rename_i dict cd sl hl
  split at e
  ·rename_i C' bm k0 k1 k2 k3 n k5 hm hs
   simp only[Bool.and_eq_true,beq_iff_eq] at e
   obtain⟨⟨⟨⟨⟨e1,e2⟩,e3⟩,e4⟩,e5⟩,e6⟩:=e
   subst e1;subst e2
   have obj:=KX _ _ hl
   have hsl:sl = #[k0,k1,k2,k3,some (Value.builtin n),k5]:=by
    apply Array.toList_inj.mp
    rw[hs]
   obtain⟨nm,bs,mro,ns,q,hdct,sn,sub,ab,col,hdel⟩:=cd
   simp only at hm e3 e5 e6
   have e3:hdel=false:=by simpa using e3
   subst e3 hm hsl
   exact⟨bm,ns,nm,q,bs,hdct,sn,sub,ab,col,dict,k0,k1,k2,k3,k5,_,obj,Heap.Ns.of_isNs (PySem.W.isNs_of_in KX e5),PySem.W.nsMap_none_of_in KX e5 e6,PySem.W.tail_of_in KX e4⟩
  ·cases e
 ·cases e
structure EC(K:Frag)(mg:Str→Option Value)(c:Str)(C:Addr):Prop where
 ns:nsIn K mainGlobals c=some (some (.ref C))
 mgl:mg c=some (.ref C)
 exc:excIn K C VE "ValueError.__new__" = true
section
variable{X:Cx}{pos:Pos}{e:Expr}{es:List Expr}{fe:FE}{fs:FA}{st:Stmt}
noncomputable def vZ(c:Str):FS:=fun τ=>.rs c τ
theorem wf{c:Str}{C:Addr}{np cpos:Pos}{d:D}(T:EC X.K X.mg c C)(hx:X.ex=[])(hh:X.A.handled=none)(ha:PDE X e (eC d))(hg:Gl X c:=by rfl)(hd:(c==("__debug__" : Str))=false:=by decide)
  (hs:starEach [e] X.env=[(false,eval e X.env)]:=by rfl):PDS X (.Raise (some (.Call (.Name c np) [e] [] cpos)) none pos) (vZ c):=by
 rintro pins s σ H D I ⟨B,Z,F,τ,R,h⟩
 obtain⟨bm,N,nm,q,bs,hdct,sn,sub,ab,col,dd,k0,k1,k2,k3,k5,mN,hC,hN,hi,tl⟩:=XY I.ok.mod.kin T.exc
 refine wpAny_Raise_call_subU (bmB:=VE) (mN:=mN) (nm:=nm) (q:=q) (N:=N) (bs:=bs) (hdct:=hdct) (sn:=sn) (sub:=sub) (ab:=ab) (col:=col) (dd:=dd) (k0:=k0) (k1:=k1) (k2:=k2) (k3:=k3) (k5:=k5) PySem.F.excBase_ValueError (by decide) PySem.F.excBase_ValueError (tl.hasType (by decide)) hh (by rw[hs];rfl) hi (wT I hg T.mgl ⟨rfl,?_⟩ hd)
 rw[hs]
 refine Calls.evalArgs_plain ?_
 have ha':=zc ha ze (by rw[hs];rfl)
 have ha2:=ha' cpos pins s σ H (fun vs H1=>∃F1,Ext F H F1 H1∧vs.length=1) I ⟨F,τ,R.rv,fun vs F1 H1 x r=>⟨F1,x,by rw[← r.length];rfl⟩⟩
 rw[hs] at ha2
 refine thn ha2 fun us s1 z_=>?_
 obtain⟨vs,H1,I1,r,F1,x1,hl⟩:=z_
 refine⟨rfl,by show us.length≤sizeLine;rw[← r.length,hl];decide,I1.bk _ _ hC,hN.keeps I1.bk,tl.keeps I1.bk,fun h' a m=>?_⟩
 have I2:Inv X pins σ H1 { s1 with heap:=h' }:=I1.kept (t':=s1.toks) m.keeps
 obtain⟨t,et,_,_⟩:=m.there
 exact h σ F1 H1 x1.ff (R.ext x1) { s1 with heap:=h' } a (.ref C) T.ns (Inv.nil I2) ⟨jg (s:=s1) I1 hx m.new,_,_,et,rfl,rfl,rfl,.inl rfl,rfl⟩
noncomputable def tX(X:Cx)(fs:FA)(g:List D→Rs D):TE:=fun σ H Q=>∃F τ,RV X.K F τ σ H∧Ok X (fs τ) fun ds=>match g ds with
 |.ok d=>Ev X.K F H Q d
 |.ex c=>∀F' H',Ext F H F' H'→XA X c σ H'
 |.no=>False
noncomputable def DefX(P:Program)(w:World)(K:Frag)(mg:Str→Option Value)(base:Heap)(x:Str)(k n:Nat)(ps:List Str)(g:List D→Rs D):Prop:=
 ∃f fd,FnOk P w K mg base (CXD P w) k f fd ps (spX K n g)∧Binds K fd ps []∧keepIn K (.ref f)=true∧mg x=some (.ref f)
theorem Z3{k n:Nat}{ps:List Str}{g:List D→Rs D}{x:Str}{p:Pos}(D:DefX X.prog X.w X.K X.mg X.base x k n ps g)(hx:X.ex=[])(hr:Room k X.A)(ha:PDA X (e::es) fs)(hfs:∀τ ds,fs τ=.ok ds→ds.length=(e::es).length)(hn:(e::es).length=n:=by rfl)(hg:Gl X x:=by rfl)(hdb:(x==("__debug__" : Str))=false:=by decide)
  (he:starEach (e::es) X.env=(false,eval e X.env)::starEach es X.env:=by rfl) (hpl:(backTo pos (starEach es X.env)).any (·.1)=false:=by rfl):PE X (.Call (.Name x p) (e::es) [] pos) (tX X fs g):=by
 obtain⟨f,fd,FF,hb,hk,hm⟩:=D
 rintro pins s σ H Q I ⟨F,τ,R,h⟩
 refine wpAny_Call_Name_kw (wT I hg hm ?_ hdb)
 refine callWith_K (h₀:=X.base) I.ok.mod.kin hk (thn (ha pos pins s σ H (fun vs H1=>vs.length=n∧∃ds F1,Ext F H F1 H1∧Reps X.K F1 ds vs∧match g ds with
  |.ok d=>Ev X.K F H Q d
  |.ex c=>∀F' H',Ext F H F' H'→XA X c σ H'
  |.no=>False) I ⟨F,τ,R,?_⟩) fun us s1 ⟨vs,H1,I1,r,hl,ds,F1,x1,rr,q⟩=>⟨I1.kIn,?_⟩) he hpl
 ·cases z:fs τ with
  |ok ds=>rw[z] at h;exact fun vs F1 H1 x1 rr=>⟨by rw[← rr.length,hfs τ ds z,hn],ds,F1,x1,rr,h⟩
  |ex c=>rw[z] at h;exact h
  |no=>rw[z] at h;exact h
 ·have hl2:us.length=ps.length:=by
   rw[← r.length,hl]
   have:=FF.len vs H1 Q (XV X σ)
   refine Eq.trans hl.symm (this ⟨hl,ds,F1,x1.fh,x1.tt R.tt,rr,?_⟩)
   cases z:g ds with
   |ok d=>rw[z] at q;exact q.ext x1
   |ex c=>rw[z] at q;exact fun F' H' cls xx hc=>(q F' H' (x1.trans xx)).xv hc
   |no=>rw[z] at q;exact q
  have hsp:spX X.K n g vs H1 Q (XV X σ):=⟨hl,ds,F1,x1.fh,x1.tt R.tt,rr,by
   cases z:g ds with
   |ok d=>rw[z] at q;exact q.ext x1
   |ex c=>rw[z] at q;exact fun F' H' cls xx hc=>(q F' H' (x1.trans xx)).xv hc
   |no=>rw[z] at q;exact q⟩
  have bt:=hb s1 us I1.kIn (by rw[append_nil];exact hl2)
  rw[append_nil] at bt
  refine wpAny_call (codeAny_mono (FF.run X.A X.stack s1 H1 ⟨us,[]⟩ us vs Q (XV X σ) hr I1.env0 bt r hsp) fun r s' hq=>?_)
  cases r with
  |error e=>exact passX hx H1 s1 I1 hq
  |ok fl=>
   cases fl with
   |ret u=>exact I1.after hq
   |next=>exact False.elim hq
   |brk=>exact False.elim hq
   |cont=>exact False.elim hq
noncomputable def YZ(g:List D→Rs D)(fs:FA):FS:=fun τ=>Fl.of (fs τ) fun ds=>match g ds with
 |.ok d=>.rt d
 |.ex c=>.rs c τ
 |.no=>.no
theorem WE{g:List D→Rs D}(h:PE X e (tX X fs g)):PDS X (.Return (some e) pos) (YZ g fs):=
 PS.imp (Zl h) fun E σ H ⟨B,Z,F,τ,R,q⟩=>⟨F,τ,R.rv,q.of.imp fun ds q=>by
  cases z:g ds with
  |ok d=>rw[z] at q;exact fun v F1 H1 x r=>q v F1 H1 (R.ext x).out r
  |ex c=>rw[z] at q;exact fun F1 H1 x=>q σ F1 H1 x.ff (R.ext x)
  |no=>rw[z] at q;exact q⟩
noncomputable def yx(f:FS):FS:=fun τ=>match f τ with
 |.rs _ _=>.no
 |.ex _=>.no
 |r=>r
theorem uY{sts:List Stmt}{f:FS}(h:vv X.nox sts f):vv X sts (yx f):=
 PSs.imp (PSs.nox h) fun E σ H ⟨B,Z,F,τ,R,q⟩=>⟨B,Z,F,τ,R,by
  unfold yx at q
  cases z:f τ with
  |nx τ'=>rw[z] at q;exact q
  |rt d=>rw[z] at q;exact q
  |ro d τ=>rw[z] at q;exact q
  |rb d τ=>rw[z] at q;exact q
  |bk d=>rw[z] at q;exact q
  |ct d=>rw[z] at q;exact q
  |ex d=>rw[z] at q;exact q.elim
  |no=>rw[z] at q;exact q
  |rs c d=>rw[z] at q;exact q.elim⟩
end
section
variable{P:Program}{w:World}{K:Frag}{mg:Str→Option Value}{base:Heap}
theorem DefX.mk{x:Str}{st:Stmt}{f:Addr}{fd:FuncData}{N ps:List Str}{k n:Nat}{fb:FS}(D:ye K mg x st f fd)(S:zP N ps (zi st))(hn:ps.length=n)
  (hb:∀(kV doc pm:Value) (an:Option Addr) (cdv ct:Value) (us:List Value),us.length=ps.length→bindArgs (fnOf x x (zO st) (zE st) (zi st) .none kV doc pm an cdv ct) ⟨us,[]⟩=pure (ps.zip us))
  (hbody:∀(cdv:Value) (A:Around) (outer:List Env) (s:Shared) (H:Hp) (E:XK),Room k (A.deeper (envOfC x (zi st) s.heap.objs.size f cdv)) →
   vv (jq (CXD P w) P w K mg base N x (zi st) f cdv A outer s H E) (zE st) fb):DefX P w K mg base x (k+1) n ps (xQ N.length fb):=
 ⟨f,fd,fnX D.fn S hn hbody,D.fn.binds hb,D.fn.kp,D.at_⟩
end
section
variable{X:Cx}{pins:List (Addr×Obj)}{σ:St}{H:Hp}{s:Shared}{a:Addr}{cls:Value}
theorem track{o:HO}{oe:Obj}{vs:Array Value}(D:Fst X)(I:Inv X pins σ H s)(n:Nw X H a)(hp:∀p∈pins,p.1≠a)(e:s.heap.get? a=some oe)(d:oe.data=.fields vs)(new:ObjOk X.prog X.w (upd H a o) s.heap a o):Inv X pins σ (upd H a o) s:=by
 have c:=Xs D I n hp e d
 have hn:=n.1
 refine⟨I.ok,I.os,I.bare,⟨I.base.keep,I.base.slot,fun b u q z hx=>?_,I.base.there,fun b xs q=>?_,fun b u v q=>?_,fun b ps q=>?_⟩,I.loc,I.cell,?_,fun x c' hc=>?_,fun p hp'=>?_,fun b u q=>?_,I.len⟩
 ·rw[zm (fun z=>by rw[z,c.1] at q;cases q)];exact I.base.free b u q z hx
 ·have:=I.base.tups b xs q
  rw[zm (zx this hn)];exact this
 ·have:=I.base.frzs b u v q
  rw[zm (zx this hn)];exact this
 ·obtain⟨m,q'⟩:=I.base.tbls b ps q
  exact⟨m,by rw[zm (zx q' hn)];exact q'⟩
 ·rw[zm (Ne.symm c.2.2.1)];exact I.free
 ·rw[zm (c.2.2.2.2.1 x c' hc)];exact I.freeC x c' hc
 ·obtain⟨q1,q2,q3⟩:=I.pin p hp'
  exact⟨q1,by rw[zm (c.2.2.2.2.2 p hp')];exact q2,q3⟩
 ·by_cases hb:b=a
  ·subst hb;rw[zr] at q;cases q;exact new
  ·rw[zm hb] at q
   exact(I.hok b u q).stay (fun _ _ _ z=>z) (fun b' z=>by rw[zm (zx z hn)];exact z) fun b' xs z=>by rw[zm (zx z hn)];exact z
noncomputable abbrev Yt(X:Cx)(a:Addr):Cx:={ X with A:=X.A.mark (some (.ref a)),calm:=false,xe:=fun _ _=>False }
theorem Inv.suite(I:Inv X pins σ H s)(a:Addr):Inv (Yt X a) pins σ H s:=
 ⟨⟨I.ok.mod,I.ok.kind,I.ok.glob,I.ok.blt,I.ok.above,I.ok.inj,I.ok.has,I.ok.cab,(fun z=>nomatch z),I.ok.frames,I.ok.stk,I.ok.exf,I.ok.bs,I.ok.bsz,I.ok.noex,I.ok.exfs,I.ok.funs,I.ok.frf⟩,I.os,I.bare,I.base,I.loc,I.cell,I.free,I.freeC,I.pin,I.hok,I.len⟩
theorem Inv.unsuite(ok:X.Ok)(I:Inv (Yt X a) pins σ H s):Inv X pins σ H s:=⟨ok,I.os,I.bare,I.base,I.loc,I.cell,I.free,I.freeC,I.pin,I.hok,I.len⟩
noncomputable abbrev wb(X:Cx)(pins:List (Addr×Obj))(E:Value→Shared→Prop):Cx:={ X with xe:=E,pn:=X.pn++pins }
theorem Inv.tryI(I:Inv X pins σ H s)(E:Value→Shared→Prop):Inv (wb X pins E) [] σ H s:=
 ⟨⟨I.ok.mod,I.ok.kind,I.ok.glob,I.ok.blt,I.ok.above,I.ok.inj,I.ok.has,I.ok.cab,I.ok.hd,I.ok.frames,I.ok.stk,I.ok.exf,I.ok.bs,I.ok.bsz,I.ok.noex,I.ok.exfs,I.ok.funs,I.ok.frf⟩,I.os,I.bare,I.base,I.loc,I.cell,I.free,I.freeC,fun p hp=>I.pin p (by simpa using hp),I.hok,I.len⟩
theorem Inv.untry{E:Value→Shared→Prop}(ok:X.Ok)(I:Inv (wb X pins E) [] σ H s):Inv X pins σ H s:=
 ⟨ok,I.os,I.bare,I.base,I.loc,I.cell,I.free,I.freeC,fun p hp=>I.pin p (by simpa using hp),I.hok,I.len⟩
theorem XR{M:Model}{h:Heap}{oe:Obj}(e:h.get? a=some oe):Looks M h (typeOf (.ref a)) oe.cls:=PySem.W.Looks.andThen (PySem.W.Looks.ld e) PySem.W.Looks.now
noncomputable def Zu(τ:DS):Bool:=τ.all fun o=>match o with
 | some (.own _)=>false
 |_=>true
noncomputable def uV(fb:FS)(ok:Str→Bool)(i:Nat)(fe:FS):FS:=fun τ=>if Zu τ=true then (match fb τ with
 |.rs c τ'=>if ok c=true then (match fe (τ'.set i (some (.val (.exc c)))) with
  |.rt d=>.rt d
  |_=>.no) else .no
 |.ex _=>.no
 |r=>r) else .no
theorem goes{h':Heap}{m':Str→Option Value}{t':Nat}(I:Inv X pins σ H s)(hn:h'.Ns X.env.locals m')(sb:Heap.SameBut X.env.locals s.heap h'):Inv X pins (List.replicate X.N.length none) H { s with heap:=h',toks:=t' }:=by
 have nL:∀b o,X.s₀.heap.get? b=some o→b≠X.env.locals:=fun b o e=>ne_of_lt (lt_of_lt_of_le (Heap.lt_size e) I.ok.above)
 refine⟨I.ok,I.os,I.bare,⟨fun b o e n hb hx=>(sb.2 b (nL b o e)).trans (I.base.keep b o e n hb hx),fun b o e n hb hx=>?_,I.base.free,fun b o e hx=>?_,I.base.tups,I.base.frzs,I.base.tbls⟩,⟨m',hn,fun j y v e1 e2 e3=>?_⟩,fun y c e=>?_,I.free,I.freeC,fun p hp=>?_,fun b u e=>?_,by simp⟩
 ·obtain⟨sl,q⟩:=I.base.slot b o e n hb hx
  exact⟨sl,(sb.2 b (nL b o e)).trans q⟩
 ·obtain⟨o',q⟩:=I.base.there b o e hx
  exact⟨o',(sb.2 b (nL b o e)).trans q⟩
 ·rw[getElem?_replicate] at e2
  split at e2 <;> cases e2
 ·obtain⟨v,o,ho,hd⟩:=I.cell y c e
  exact⟨v,o,(sb.2 c (I.cne y c e)).trans ho,hd⟩
 ·obtain⟨q1,q2,q3,q4⟩:=I.pin p hp
  exact⟨(sb.2 p.1 q3).trans q1,q2,q3,q4⟩
 ·refine(I.hok b u e).stay (fun c w' hc q=>(sb.2 c ?_).trans q) (fun _ q=>q) fun _ _ q=>q
  rintro rfl
  rcases hc with rfl|hc
  ·rw[I.free] at e;cases e
  ·rw[I.free] at hc;cases hc
theorem XE{body suite:List Stmt}{b₀:Stmt}{fb fe:FS}{ok:Str→Bool}{n hc:Str}{Ch:Addr}{i:Nat}{np hpos pos:Pos}(D:Fst X)(TH:EC X.K X.mg hc Ch)(hN:X.N.Nodup)(hi:X.N[i]?=some n)(hk:X.env.kindOf n=some .local)
  (hb:∀pins E,vv (wb X pins E) body fb) (hs:∀a,vv (Yt X a) (b₀::suite) fe)
  (hok:∀c cls,ok c=true→nsIn X.K mainGlobals c=some (some cls)→exmOne X.K cls (.ref Ch)=some true)
  (hg:Gl X hc:=by rfl) (hd:(hc==("__debug__" : Str))=false:=by decide):PDS X (.Try body [.ExceptHandler (some (.Name hc np)) (some n) (b₀::suite) hpos] [] [] pos) (uV fb ok i fe):=by
 rintro pins s σ H E I ⟨B,Z,F,τ,R,h⟩
 unfold uV at h
 by_cases hno:Zu τ=true
 rotate_left
 ·rw[if_neg hno] at h;exact h.elim
 rw[if_pos hno] at h
 refine wpAny_Try_except ?_
 have R0:RS X.K B Z F τ σ H:=R
 have lift:∀{σ':St} {F' H':Hp} {τ':DS},RS X.K B Z F' τ' σ' H'→RS X.K B Z F' τ' σ' H':=fun RR=>RR
 refine wpAny_mono (Q:=SP (wb X pins _) [] E) (hb pins _ [] s σ H E (Inv.tryI I _) ⟨B,Z,F,τ,R0,?_⟩) (fun f s' sp=>?_) (fun _ _ q=>q)
 ·cases q:fb τ with
  |nx τ'=>rw[q] at h;exact fun σ' F' H' ff RR=>h σ' F' H' ff (lift RR)
  |bk τ'=>rw[q] at h;exact fun σ' F' H' ff RR=>h σ' F' H' ff (lift RR)
  |ct τ'=>rw[q] at h;exact fun σ' F' H' ff RR=>h σ' F' H' ff (lift RR)
  |rt d=>rw[q] at h;exact fun v F' H' x r=>h v F' H' x r
  |ro d τ'=>rw[q] at h;exact fun v σ' F' H' ff RR r=>h v σ' F' H' ff (lift RR) r
  |rb d τ'=>rw[q] at h;exact fun v σ' F' H' ff RR r=>h v σ' F' H' ff (lift RR) r
  |ex c=>rw[q] at h;exact h.elim
  |no=>rw[q] at h;exact h
  |rs c τ'=>
   rw[q] at h
   intro σ' F' H' ff RR s1 a cls hcn J x
   have RR:RS X.K B Z F' τ' σ' H':=RR
   by_cases hoc:ok c=true
   rotate_left
   ·simp only[if_neg hoc] at h;exact h.elim
   simp only[if_pos hoc] at h
   have D1:∀E',Fst (wb X pins E'):=fun _=>⟨D.ex,D.stk,D.fr⟩
   refine Zt (X:=wb X pins _) I.ok.frames (D1 _) J x fun h1 J1 x1=>?_
   refine ue (X:=wb X pins _) (s:={ s1 with heap:=h1 }) (D1 _) J1 x1 fun h2 J2 x2=>?_
   refine wpAny_handleBy_cons ?_ (by intro z;cases z)
   refine codeAny_handlers_test ?_
   have JS:=Inv.suite J2 a
   refine wT JS hg TH.mgl ?_ hd
   obtain⟨na,oe,vs,T,oT,ts,g1,g2,g0,g3,g4,g5,g6,g7,g8,g9⟩:=id x2
   have lk:Looks (model X.prog X.w) h2 (excMatches (.ref a) (.ref Ch)) true:=PySem.W.exm_one J2.kIn (XR g1) (by rw[g2];exact hok c cls hoc hcn)
   refine PySem.W.Looks.at lk ?_
   refine codeAny_handlers_suite_as ?_
   refine ue (X:=wb X pins _) (s:={ s1 with heap:=h2 }) (D1 _) J2 x2 fun h3 J3 x3=>?_
   obtain⟨na,oe,vs,T,oT,ts,g1,g2,g0,g3,g4,g5,g6,g7,g8,g9⟩:=id x3
   have JT:=track (o:=.ext (Yf X.K a c)) (D1 _) J3 na (FD.np a) g1 g3 ⟨⟨oe,cls,vs,g1,g2,g0,g3,hcn⟩,⟨oe,g1⟩,fun k1 k2 ⟨o1,c1,v1,p1,p2⟩ kk=>⟨o1,c1,v1,kk _ p1,p2⟩⟩
   refine uR (Inv.untry I.ok JT) hN hi (Or.inl hk) (show RelV (.ref a) (.ref a) from rfl) (fun s4 J4=>?_) (.inr hk)
   have RR2:RS X.K B Z (upd F' a (.ext (Yf X.K a c))) (τ'.set i (some (.val (.exc c)))) (σ'.set i (some (.ref a))) (upd H' a (.ext (Yf X.K a c))):=((lift RR).ext (Ext.new (lift RR).rv.fh na.1)).set (by simp only[Rep];exact⟨a,rfl,zr⟩)
   refine wpAny_mono (hs a pins s4 _ _ { nx:=fun _ _=>False,rt:=E.rt } (Inv.suite J4 a) ⟨B,Z,_,_,RR2,?_⟩) (fun f s5 sp=>?_) (fun _ _ z=>False.elim z)
   ·cases q2:fe (τ'.set i (some (.val (.exc c)))) with
    |rt d=>rw[q2] at h;exact h
    |ro _ _=>rw[q2] at h;exact h.elim
    |rb _ _=>rw[q2] at h;exact h.elim
    |nx _=>rw[q2] at h;exact h.elim
    |bk _=>rw[q2] at h;exact h.elim
    |ct _=>rw[q2] at h;exact h.elim
    |ex _=>rw[q2] at h;exact h.elim
    |no=>rw[q2] at h;exact h.elim
    |rs _ _=>rw[q2] at h;exact h.elim
   ·cases f with
    |next=>obtain⟨_,_,_,z⟩:=sp;exact z.elim
    |brk=>obtain⟨_,_,_,z⟩:=sp;exact z.elim
    |cont=>obtain⟨_,_,_,z⟩:=sp;exact z.elim
    |ret u=>
     obtain⟨v,σ5,H5,I5,r5,q5⟩:=sp
     have I5:=Inv.unsuite I.ok I5
     obtain⟨m,hm,_⟩:=id I5.loc
     exact wpAny_nameGoes hk hm (by rw[I.ok.kind];rfl) fun h6 m6 hn6 sb=>⟨v,_,H5,goes I5 hn6 sb,r5,q5⟩
 ·cases f with
  |next=>obtain⟨σ',H',I',q'⟩:=sp;exact wpAny_execs_nil ⟨σ',H',Inv.untry I.ok I',q'⟩
  |brk=>obtain⟨σ',H',I',q'⟩:=sp;exact⟨σ',H',Inv.untry I.ok I',q'⟩
  |cont=>obtain⟨σ',H',I',q'⟩:=sp;exact⟨σ',H',Inv.untry I.ok I',q'⟩
  |ret u=>obtain⟨v,σ',H',I',r',q'⟩:=sp;exact⟨v,σ',H',Inv.untry I.ok I',r',q'⟩
end
theorem UO:builtinKind "BaseException.__getattribute__" = some Manifest.AttrKind.slot:=by decide +kernel
theorem Wj:splitId "BaseException.__getattribute__" = some ("BaseException", "__getattribute__"):=by decide +kernel
structure ECK(K:Frag)(C:Addr):Prop where
 ga:findIn K (.ref C) "__getattribute__" = some (some (.builtin "BaseException.__getattribute__"))
 gh:findIn K (.ref C) "__getattr__" = some none
 ob:findObj K C none "__class__" = some (Builtin.ObjectAttr.Found.bind (.builtin "getset_descriptor.__get__") (.builtin "object.__class__"))
 mo:mroIn K C (.type "object")=some true
 mb:mroIn K C (.type "BaseException")=some true
 ty:typeIn K (.ref C)=some (.type "type")
 se:kitCls K (.ref C) (.ref C)=some true
noncomputable def ExI(x C:Addr):Heap→Prop:=fun h=>∃oe vs,h.get? x=some oe∧oe.cls=.ref C∧oe.dict=none∧oe.data=.fields vs
theorem ExI.inst{x C:Addr}{h:Heap}(e:ExI x C h):∃ox,PySem.W.InstAt h x ox C none:=by
 obtain⟨oe,vs,e1,e2,e3,e4⟩:=e
 exact⟨oe,e1,e2,by unfold PySem.W.notCls;rw[e4],by rw[e3];trivial⟩
section
variable{prog:Program}{w:World}{A:Around}{E:Value→Shared→Prop}{K:Frag}{x C:Addr}
theorem Vs{s:Shared}{nameV:Value}{Q:Unit→Shared→Prop}(T:ECK K C)(KX:K.In s.heap)(hx:ExI x C s.heap)(q:Q () s):wpAny (model prog w) A (checkBuiltinCall "BaseException.__getattribute__" { pos:=[.ref x,nameV] }) Q E s:=by
 obtain⟨hp,g,d,t,os⟩:=s
 obtain⟨ox,ix⟩:=hx.inst
 unfold checkBuiltinCall
 simp only[UO,Wj]
 unfold isInstance
 refine wpAny_bind (wpAny_bind (PySem.W.Looks.at ix.type ?_))
 refine PySem.W.Looks.at (PySem.W.looks_mroIn KX T.mb) ?_
 simp only[Bool.not_true,Bool.false_eq_true,if_false]
 have:=PySem.F.args_bexc_ga (.ref x) nameV
 unfold argsOk at this
 cases z:Manifest.signature? "BaseException.__getattribute__" with
 |none=>exact wpAny_pure q
 |some sig=>
  rw[z] at this
  exact wpAny_of_eq this q
theorem XX{s:Shared}{Q:Option Value→Shared→Prop}(T:ECK K C)(KX:K.In s.heap)(hx:ExI x C s.heap)(q:Q (some (.ref C)) { s with toks:=s.toks+1 }):wpAny (model prog w) A (getAttr? (.ref x) "__class__") Q E s:=by
 obtain⟨hp,g,d,t,os⟩:=s
 obtain⟨ox,ix⟩:=hx.inst
 unfold getAttr?
 refine wpAny_bind (wpAny_mkText ?_)
 unfold getAttrBy?
 refine wpAny_bind (wpAny_attempt ?_)
 unfold getAttrBy
 refine wpAny_holding (wpAny_bind (PySem.W.Looks.at ix.type ?_))
 refine wpAny_bind (PySem.W.Looks.at (PySem.W.looks_findIn KX T.ga) ?_)
 simp only
 rw[if_neg (show ¬(onTheHeap (Value.ref C)&&Value.builtin "BaseException.__getattribute__" == Value.builtin "object.__getattribute__")=true by show ¬ (true&&_)=true;decide)]
 unfold getAttrByItsOwn hookBefore
 refine wpAny_bind ?_
 rw[if_pos (by rfl)]
 refine PySem.W.Looks.at (PySem.W.looks_findIn KX T.gh) ?_
 refine wpAny_bind (wpAny_attempt (wpAny_holding ?_))
 unfold callGetattribute boundAndCalled
 rw[if_neg (by decide)]
 rw[PySem.F.attrBase_ValueError.ga.bind]
 refine wpAny_bind (wpAny_pure ?_)
 refine wpAny_call (codeAny_call_builtin PySem.F.attrBase_ValueError.ga.plain PySem.F.entry_bexc_ga ?_)
 refine Vs T KX hx ?_
 unfold Builtin.«object.__getattribute__»
 refine wpAny_bind ?_
 refine(show wpAny (model prog w) A.in1 (pure (Value.ref x,[Value.str (Str.ofString "__class__") t]):Sem (Value×List Value)) _ _ _ from wpAny_pure ?_)
 refine wpAny_bind ((show wpAny (model prog w) A.in1 (pure (Str.ofString "__class__"):Sem Str) _ _ _ from wpAny_pure ?_))
 refine wpAny_bind (PySem.W.Looks.at ix.type ?_)
 refine wpAny_bind (PySem.W.Looks.at (PySem.W.looks_find KX ix T.ob) ?_)
 refine wpAny_bind (wpAny_holding (wpAny_call (PySem.W.class_get KX ix T.mo ?_)))
 exact wpAny_pure (wpAny_pure (wpAny_pure q))
theorem UN(T:ECK K C):PySem.W.KitX K (.ref x) (.ref C) (ExI x C) where
 ty:=fun M h _ hx=>by
  obtain⟨ox,ix⟩:=hx.inst
  exact ix.type
 it:=fun M h KX _=>(PySem.W.kit_cls KX T.se).2.1
 ne:=fun h tp dd its n sl KX e=>by
  cases z:(Value.ref C==Value.ref tp) with
  |false=>rfl
  |true=>
   have z:C=tp:=by simpa using z
   subst z
   have ty:Option.map (fun x:Obj=>x.cls) (List.lookup C K)=some (.type "type"):=T.ty
   cases l:List.lookup C K with
   |none=>rw[l] at ty;cases ty
   |some o=>
    rw[l] at ty
    have:=KX C o l
    rw[e] at this;cases this
    simp at ty
 ca:=fun KX hx q=>XX T KX hx q
end
section
variable{X:Cx}{pos:Pos}{a b:Expr}{fa:FE}
noncomputable def Jn(tb:List (Str×Bool)):D→Rs D
 |.exc c=>match tb.lookup c with
  |some b=>.ok (.bl b)
  |none=>.no
 |_=>.no
noncomputable def XZ(tb:List (Str×Bool))(fa:FE):FE:=fun τ=>(fa τ).bind (Jn tb)
theorem Um{tb:List (Str×Bool)}{v:V}{u:Value}{p:Pos}(ha:PDE X a fa)(hb:PE X b (tC v))(hu:∀u',RelV v u'→u'=u)(ht:∀c k,tb.lookup c=some k→∃C,nsIn X.K mainGlobals c=some (some (.ref C))∧ECK X.K C∧kitOne X.K (.ref C) u=some k)
  (hm:X.mg "isinstance" = none) (hg:Gl X "isinstance" := by rfl) (hs:starEach [a,b] X.env=[(false,eval a X.env),(false,eval b X.env)]:=by rfl) (hs2:starEach [b] X.env=[(false,eval b X.env)]:=by rfl) :
  PDE X (.Call (.Name "isinstance" p) [a,b] [] pos) (XZ tb fa):=by
 have call:CallR X (.builtin "isinstance") (fun vs H Q=>∃x c k,vs=[.ref x,v]∧H x=some (.ext (Yf X.K x c))∧tb.lookup c=some k∧Q (.bl k) H):=by
  rintro pins s σ H vs us Q I r ⟨x,c,k,e,hx,hk,q⟩
  subst e
  obtain⟨u1,u2,rfl,r1,r2⟩:=vals2 r
  obtain rfl:u1=Value.ref x:=r1
  rw[hu u2 r2]
  obtain⟨C,h1,T,h2⟩:=ht c k hk
  obtain⟨⟨oe,cls,vs,e1,e2,e3,e4,e5⟩,_,_⟩:=I.hok x _ hx
  rw[h1] at e5
  cases e5
  exact PySem.W.kia_one (UN T) I.kIn ⟨oe,vs,e1,e2,e3,e4⟩ h2 (by intro z;cases z) fun tk=>⟨.bl k,H,I.tok _,rfl,q⟩
 refine PE.imp (L2.pe_callB call hg hm boot_isinstance (wq ha (wq hb u7 (by rw[hs2];rfl)) (by rw[hs,hs2])) (he:=by rw[hs,hs2]) (hpl:=by rw[hs2];rfl)) fun σ H Q z_=>?_
 obtain⟨F,τ,R,h⟩:=z_
 refine tE.of R h.bind fun d w F1 H1 g x R1 r=>?_
 cases d with
 |exc c=>
  simp only[Rep] at r
  obtain⟨y,rfl,e⟩:=r
  simp only[Jn] at g
  cases z:tb.lookup c with
  |none=>rw[z] at g;exact g.elim
  |some k=>
   rw[z] at g
   exact⟨y,c,k,rfl,R1.fh _ _ e,z,g (.bl k) F1 H1 x (by simp only[Rep])⟩
 |_=>exact g.elim
theorem tb1{c0 c:Str}{k0 k:Bool}(h:List.lookup c [(c0,k0)]=some k):c=c0∧k=k0:=by
 simp only[List.lookup] at h
 cases z:c==c0 with
 |true=>rw[z] at h;exact⟨by simpa using z,(Option.some.inj h).symm⟩
 |false=>rw[z] at h;cases h
theorem vF{c0:Str}{C0:Addr}{k0:Bool}{v:V}{u:Value}{p:Pos}(T:EC X.K X.mg c0 C0)(TK:ECK X.K C0)(ha:PDE X a fa)(hb:PE X b (tC v))(hu:∀u',RelV v u'→u'=u)(kk:kitOne X.K (.ref C0) u=some k0)
  (hm:X.mg "isinstance" = none) (hg:Gl X "isinstance" := by rfl) (hs:starEach [a,b] X.env=[(false,eval a X.env),(false,eval b X.env)]:=by rfl) (hs2:starEach [b] X.env=[(false,eval b X.env)]:=by rfl) :
  PDE X (.Call (.Name "isinstance" p) [a,b] [] pos) (XZ [(c0,k0)] fa):=
 Um ha hb hu (fun c k h=>by obtain⟨rfl,rfl⟩:=tb1 h;exact⟨C0,T.ns,TK,kk⟩) hm hg hs hs2
theorem Zk{C:Addr}:∀u',RelV (V.ref C) u'→u'=Value.ref C:=fun u' h=>h
theorem Jy{T:String}:∀u',RelV (V.ty T) u'→u'=Value.type T:=fun u' h=>h
theorem ok1{c0:Str}{C0 Ch:Addr}{K:Frag}{mg:Str→Option Value}(T:EC K mg c0 C0)(x:exmOne K (.ref C0) (.ref Ch)=some true):∀c cls,(c==c0)=true→nsIn K mainGlobals c=some (some cls)→exmOne K cls (.ref Ch)=some true:=fun c cls h1 h2=>by
 have e:c=c0:=by simpa using h1
 subst e
 rw[T.ns] at h2
 cases h2
 exact x
end
section
variable{X:Cx}{pos:Pos}{e:Expr}{es:List Expr}{fs:FA}{st:Stmt}
theorem jT{f:FS}(h:PDS X.nox st f):PDS X st (yx f):=by
 rintro pins s σ H D I ⟨B,Z,F,τ,R,q⟩
 refine wpAny_mono (h pins s σ H D (I.wish _) ⟨B,Z,F,τ,R,?_⟩) (fun _ _ z=>z.unwish) fun _ _ z=>False.elim z
 unfold yx at q
 cases z:f τ with
 |nx τ'=>rw[z] at q;exact q
 |rt d=>rw[z] at q;exact q
 |ro d τ=>rw[z] at q;exact q
 |rb d τ=>rw[z] at q;exact q
 |bk d=>rw[z] at q;exact q
 |ct d=>rw[z] at q;exact q
 |ex d=>rw[z] at q;exact q.elim
 |no=>rw[z] at q;exact q
 |rs c d=>rw[z] at q;exact q.elim
theorem XG{g:List D→Rs D}(h:PE X e (tX X fs g)):PDE X e (zD g fs):=
 PE.imp h fun σ H Q ⟨F,τ,R,q⟩=>⟨F,τ,R,(Ok.bind q).imp fun ds q=>by
  cases z:g ds with
  |ok d=>rw[z] at q;exact q
  |ex c=>rw[z] at q;exact q.elim
  |no=>rw[z] at q;exact q⟩
theorem U3:bootBuiltins "ValueError" = some (.type "ValueError"):=by first|rfl|decide +kernel
end
section
variable{X:Cx}{pos:Pos}{e a b:Expr}{es:List Expr}{fe fa fb:FE}{fs:FA}
end
section
variable{X:Cx}{pos:Pos}{e a b:Expr}{es:List Expr}{fe fa fb:FE}{fs:FA}
end
section
variable{P:Program}{w:World}{K:Frag}{mg:Str→Option Value}{base:Heap}
end
section
variable{X:Cx}{pos:Pos}{e:Expr}{es:List Expr}{fe:FE}{fs:FA}
end
section
variable{X:Cx}{scope:Scope}{N':List Str}
end
section
variable{X:Cx}{scope:Scope}{N':List Str}{tg iter elt:Expr}{ifs:List Expr}{pos:Pos}{wi:TI}{g:TG}{ti:TT}{te:TE}{s0:St→St}
end
section
variable{X:Cx}{scope:Scope}{tn fr:List Str}{idx:List Nat}{tg iter elt:Expr}{ifs:List Expr}{pos:Pos}{fi:FA}{set:FG}{ft:FT}{fe:FE}
end
section
variable{X:Cx}{tg:Expr}
end
section
variable{X:Cx}{pos:Pos}{e tg:Expr}{es:List Expr}{fe:FE}{fs:FA}
end
section
variable{P:Program}{w:World}{K:Frag}{mg:Str→Option Value}{base:Heap}
end
section
variable{X:Cx}{pos:Pos}{e:Expr}{es:List Expr}{fe:FE}{fs:FA}
end
section
variable{X:Cx}{pins:List (Addr×Obj)}{σ:St}{H:Hp}{s:Shared}{a:Addr}{cls:Value}
end
section
variable{X:Cx}{pos:Pos}{e a b:Expr}{es:List Expr}{fe fa fb:FE}{fs:FA}
end
section
variable{X:Cx}{tg:Expr}
end
section
variable{X:Cx}{pos:Pos}{e tg:Expr}{es:List Expr}{fe:FE}{fs:FA}
end
section
variable{X:Cx}{pos:Pos}{e a b:Expr}{es:List Expr}{fe fa fb:FE}{fs:FA}
end
open PySem.W
section
variable{lt:Nat→Nat→Bool}{n:Nat}
end
section
variable{n:Nat}{κ:Nat→List Int}{p:Array Nat}
variable(inj:∀i j,i<n→j<n→κ i=κ j→i=j)
include inj
end
open PySem.W
section
variable{prog:Program}{w:World}{A:Around}{E:Value→Shared→Prop}{s:Shared}
end
section
variable[Tabs]{X:Cx}{pins:List (Addr×Obj)}{σ:St}{F H:Hp}{s:Shared}
end
open PySem.W
section
variable{X:Cx}{pins:List (Addr×Obj)}{σ:St}{F H:Hp}{τ:DS}{s:Shared}{Q:VK}{E:Value→Shared→Prop}
end
open PySem.W
section
variable{X:Cx}{pins:List (Addr×Obj)}{σ:St}{F H:Hp}{τ:DS}{s:Shared}{Q:VK}{E:Value→Shared→Prop}
end
open PySem.W
section
variable{X:Cx}{scope:Scope}{N':List Str}{pins:List (Addr×Obj)}{σ σ':St}{F H:Hp}{τ:DS}{s:Shared}
end
open PySem.W
section
variable{X:Cx}{scope:Scope}{pins:List (Addr×Obj)}{σ:St}{F H:Hp}{τ:DS}{s:Shared}
end
section
variable{prog:Program}{w:World}{A:Around}{R:Result→Shared→Prop}{E:Value→Shared→Prop}{I S:Addr}{fp wr:List Addr}{n:Nat}{P:Nat→Value→Prop}{St:Nat→Heap→Prop}{kw:List (Str×Value)}
end
variable[Tabs]
section
variable{X:Cx}{pos pp kp:Pos}{e e2:Expr}{fe f2:FE}
end
open Classical in
noncomputable def jn(τ:DS)(σ:St)(F H:Hp):Hp:=fun a=>if ∃(i:Nat) (ds:List D),τ[i]?=some (some (.own ds))∧σ[i]?=some (some (.ref a)) then H a else F a
noncomputable def Vh:Option Sl→Option Sl
 | some (.own ds)=>some (.val (.lst ds))
 |o=>o
noncomputable def ud(τ:DS):DS:=τ.map Vh
theorem wj{τ:DS}{i:Nat}{o:Sl}(h:(ud τ)[i]?=some (some o)):(∃d,o=.val d∧τ[i]?=some (some (.val d)))∨(∃ds,o=.val (.lst ds)∧τ[i]?=some (some (.own ds)))∨(YH (some o)=true∧τ[i]?=some (some o)):=by
 unfold ud at h
 rw[getElem?_map] at h
 cases q:τ[i]? with
 |none=>rw[q] at h;cases h
 |some x=>
  rw[q] at h
  cases x with
  |none=>cases h
  |some sl=>
   cases sl with
   |val d=>cases h;exact .inl ⟨d,rfl,rfl⟩
   |own ds=>cases h;exact .inr (.inl ⟨ds,rfl,rfl⟩)
   |obj n c fs=>cases h;exact .inr (.inr ⟨rfl,rfl⟩)
   |obr c fs=>cases h;exact .inr (.inr ⟨rfl,rfl⟩)
theorem xh{τ:DS}{i:Nat}{o:Sl}(ho:YH (some o)=true)(h:(ud τ)[i]?=some (some o)):τ[i]?=some (some o):=by
 rcases wj h with ⟨_,e1,_⟩|⟨_,e1,_⟩|⟨_,e2⟩
 ·subst e1;cases ho
 ·subst e1;cases ho
 ·exact e2
section
variable{K:Frag}{B Z F H:Hp}{τ:DS}{σ:St}
theorem wK(R:RV K F τ σ H):Same F (jn τ σ F H):=fun b o e=>by
 unfold jn
 split
 ·rename_i h
  obtain⟨i,ds,h1,h2⟩:=h
  obtain⟨a,vs,q1,q2,q3,q4⟩:=R.own i ds h1
  rw[h2] at q1;cases q1
  rw[q3] at e;cases e
 ·exact e
theorem RV.frz(R:RV K F τ σ H):RV K (jn τ σ F H) (ud τ) σ H:=by
 refine⟨fun b o e=>?_,by unfold ud;rw[length_map];exact R.len,fun i d e=>?_,fun i ds e=>?_,fun i j ds es a _ h1 _ _ _=>?_,⟨fun r hr=>?_,R.tt.2⟩,?_⟩
 ·unfold jn at e
  split at e
  ·exact e
  ·exact R.fh b o e
 ·rcases wj e with ⟨d',e1,e2⟩|⟨ds,e1,e2⟩|⟨e1,e2⟩
  ·cases e1
   obtain⟨v,h1,h2⟩:=R.val i d e2
   exact⟨v,h1,h2.mono (wK R)⟩
  ·cases e1
   obtain⟨a,vs,q1,q2,q3,q4⟩:=R.own i ds e2
   refine⟨_,q1,?_⟩
   simp only[Rep]
   refine⟨a,vs,rfl,?_,q4.mono (wK R)⟩
   unfold jn
   rw[if_pos ⟨i,ds,e2,q1⟩];exact q2
  ·cases e1
 ·rcases wj e with ⟨_,e1,_⟩|⟨_,e1,_⟩|⟨e1,_⟩ <;> cases e1
 ·rcases wj h1 with ⟨_,e1,_⟩|⟨_,e1,_⟩|⟨e1,_⟩ <;> cases e1
 ·obtain⟨t1,t2⟩:=R.tt.1 r hr
  refine⟨?_,t2⟩
  unfold jn
  split
  ·rename_i h
   obtain⟨i,ds,h1,h2⟩:=h
   obtain⟨a,vs,q1,q2,q3,q4⟩:=R.own i ds h1
   rw[h2] at q1;cases q1
   rw[q2] at t2
   rcases t2 with z|⟨_,z,_⟩ <;> cases z
  ·exact t1
 ·have nf:∀{a:Addr} {u:HO},H a=some u→F a=none→(∀(i:Nat) (ds:List D),τ[i]?=some (some (.own ds))→σ[i]?=some (some (.ref a))→False)→jn τ σ F H a=none:=fun {a u} h h3 n=>by
   unfold jn
   split
   ·rename_i h
    obtain⟨j,ds,g1,g2⟩:=h
    exact(n j ds g1 g2).elim
   ·exact h3
  have o1:ObsOk K (jn τ σ F H) τ σ H:=R.ob.keep (wK R) (fun _ _ _ _ h=>h) (fun a C dx vs h h3=>nf h h3 fun i ds g1 g2=>by
    obtain⟨b,ws,q1,q2,q3,q4⟩:=R.own i ds g1
    rw[g2] at q1;cases q1
    rw[q2] at h;cases h) (fun _ _ h=>h) fun i c a l ws h1 h2 h3 h4 h5=>⟨h4,nf h4 h5 fun j ds g1 g2=>R.ob.lo i j c ds a l h1 g1 h2 g2 h3⟩
  have bo:∀{i:Nat} {c:Str},ObS (ud τ)[i]? c→ObS τ[i]? c:=fun {i c} h=>by
   rcases h with ⟨n,fs,h⟩|⟨fs,h⟩
   ·exact .inl ⟨n,fs,xh rfl h⟩
   ·exact .inr ⟨fs,xh rfl h⟩
  exact⟨fun i n c fs h=>o1.at_ i n c fs (xh rfl h),fun i j n c c' fs a hij h1 h2=>o1.dis i j n c c' fs a hij (xh rfl h1) (bo h2),fun i c fs h=>o1.rd i c fs (xh rfl h),fun i j n c c' fs a a' l hij h1 h2=>o1.ll i j n c c' fs a a' l hij (xh rfl h1) (bo h2),fun i j c ds a l _ h2=>by
   rcases wj h2 with ⟨_,e1,_⟩|⟨_,e1,_⟩|⟨e1,_⟩ <;> cases e1⟩
theorem RS.frz(R:RS K B Z F τ σ H):RS K B Z (jn τ σ F H) (ud τ) σ H:=by
 refine⟨R.rv.frz,R.bh,R.zf.trans (wK R.rv),fun a o e=>?_,fun i ds a h1 _=>?_,fun i n c fs a h1 h2=>R.oo i n c fs a (xh rfl h1) h2,fun a0 dx b1 b2 i n c fs h=>R.sf a0 dx b1 b2 i n c fs (xh rfl h),fun i c fs a h1 h2=>R.ro i c fs a (xh rfl h1) h2⟩
 ·unfold jn at e
  split at e
  ·rename_i h
   obtain⟨i,ds,h1,h2⟩:=h
   exact .inr (R.ob i ds a h1 h2)
  ·exact R.nb a o e
 ·rcases wj h1 with ⟨_,e1,_⟩|⟨_,e1,_⟩|⟨e1,_⟩ <;> cases e1
end
section
variable{X:Cx}{pos:Pos}{e tg:Expr}{st:Stmt}{ss:List Stmt}{fe:FE}{fs:FA}{f:FS}
theorem Uh(h:PDS X st f):PDS X st (fun τ=>f (ud τ)):=PS.imp h fun E σ H z_=>by obtain⟨B,Z,F,τ,R,q⟩:=z_;exact⟨B,Z,_,ud τ,R.frz,q.same (wK R.rv)⟩
noncomputable def scal:D→Bool
 |.non=>true
 |.bl _=>true
 |.int _=>true
 |.str _=>true
 |_=>false
end
open PySem.W
section
variable{X:Cx}{pins:List (Addr×Obj)}{σ:St}{F H:Hp}{τ:DS}{s:Shared}{Q:VK}{E:Value→Shared→Prop}
end
open PySem.W
section
variable{P:Program}{w:World}{K:Frag}{mg:Str→Option Value}{base:Heap}
end
section
variable{X:Cx}{pos:Pos}{e a b:Expr}{es:List Expr}{fe fa fb:FE}{fs:FA}
end
section
variable{X:Cx}{pos:Pos}{e:Expr}{es:List Expr}{fe:FE}{fs:FA}{C:Addr}{c f x:Str}{i:Nat}
end
section
variable{X:Cx}{pos:Pos}{e:Expr}{es:List Expr}{fe:FE}{fs:FA}{C:Addr}{c f x:Str}{i:Nat}
end
section
variable{X:Cx}{pos:Pos}{e:Expr}{es:List Expr}{fe:FE}{ff:FA}{C:Addr}{c f x:Str}{i:Nat}
end
section
variable{X:Cx}{pos:Pos}{e:Expr}{es:List Expr}{fe:FE}{ff:FA}{C:Addr}{c f x:Str}{i:Nat}
end
section
variable{P:Program}{w:World}{K:Frag}{mg:Str→Option Value}{base:Heap}
end
noncomputable abbrev FOb:=DS→Rs (D×DS)
noncomputable abbrev FObT:=DS→Rs (Bool×DS)
section
variable{X:Cx}{pos:Pos}{e a b:Expr}{es xm:List Expr}{fe fb:FE}{fs:FA}{c m x:Str}{i k n:Nat}{ps:List Str}{fo:FOb}{ga gb:FObT}
end
section
variable{X:Cx}{pos:Pos}{e a b:Expr}{es xm:List Expr}{fe fb:FE}{fs f1 f2:FA}{c m x y:Str}{i k n j:Nat}{ps:List Str}{fo:FOb}
end
section
variable{X:Cx}{pos:Pos}{e:Expr}{es:List Expr}{fs:FA}{c x:Str}{i k n:Nat}{ps:List Str}
end
section
variable{P:Program}{w:World}{K:Frag}{mg:Str→Option Value}{base:Heap}
end
noncomputable def ItH(K:Frag)(J:It)(F1 H1:Hp)(ds:List D):Prop:=∀(i:Nat) (F H:Hp),Same F1 F→Same F H→Hh H1 H →
 (ds.length≤i→J.stop i H)∧∀d,ds[i]?=some d→J.go i H∧∀x H',J.yld i H x H'→∃F',Ext F H F' H'∧Rep K F' d x
noncomputable def tIh(X:Cx)(f:FA):TI:=fun σ H R=>∃F τ,RV X.K F τ σ H∧Ok X (f τ) fun ds=>∀J F1 H1,Ext F H F1 H1→ItH X.K J F1 H1 ds→R J H1
noncomputable def U8(X:Cx)(tg iter:Expr)(f:FA):Prop:=PI X tg iter (tIh X f)
theorem PDI.h{X:Cx}{tg e:Expr}{f:FA}(h:PDI X tg e f):U8 X tg e f:=PI.imp h fun σ H R z_=>by obtain⟨F,τ,Rv,q⟩:=z_;exact⟨F,τ,Rv,q.imp fun ds g J F1 H1 x io=>g J F1 H1 x fun i F H a b _=>io i F H a b⟩
section
variable{X:Cx}{scope:Scope}{tn fr:List Str}{idx:List Nat}{tg iter elt:Expr}{ifs:List Expr}{pos:Pos}{fi:FA}{set:FG}{ft:FT}{fe:FE}
theorem vp(so:uv set){Y:Cx}(hK:Y.K=X.K)(σ:St)(H:Hp)(Q:VK)(h:tFr X (yQ tn.length idx fi set ft fe) σ H Q):Wf (wz tn.length idx) (tIh X fi) (tG Y set) (tTs Y ft) (tE Y fe) σ H Q:=by
 obtain⟨F,τ,R,h⟩:=h
 refine⟨F,τ,R,h.bind.imp fun ds gds J F1 H1 x io=>fun acc hacc=>?_⟩
 cases q:xt set ft fe (xu tn.length idx τ) ds with
 |no=>rw[q] at gds;exact gds.elim
 |ex c=>rw[q] at gds;exact gds.elim
 |ok xs=>
  rw[q] at gds
  obtain⟨hz,k⟩:=zW gds
  have R1:=R.ext x
  have hF1:F1 acc=none:=zv x.fh hacc
  refine⟨fun i m σ1 Hc=>m=ds.length-i∧i≤ds.length∧∃F2 Hm τ1 dn rs vs,CWH X.K set ft fe (xu tn.length idx τ) ds xs F1 H1 acc i σ1 Hc F2 Hm τ1 dn rs vs,⟨ds.length,by simp,zero_le _,F1,H1,_,[],xs,[],Ext.refl x.fh,hacc,rfl,Reps.nil,?_,yU _ _ _,fun _=>rfl,q,rfl⟩,?_⟩
  ·exact(Y2 tn.length idx R1).free_upd (yU _ _ _) hacc hF1 (.inl hacc)
  rintro i m σ1 Hc ⟨rfl,hi,F2,Hm,τ1,dn,rs,vs,x2,hm,rfl,r2,R2,n2,so2,cl,ex⟩
  obtain⟨i1,i2⟩:=io i F2 _ x2.ff R2.rv.fh (x2.hh.trans (.of (zI hm)))
  by_cases hlt:i<ds.length
  ·have hd:ds.drop i=ds[i]::ds.drop (i+1):=List.drop_eq_getElem_cons hlt
   rw[hd,xt] at cl
   obtain⟨go,yl⟩:=i2 ds[i] (by simp[hlt])
   refine .inr ⟨go,fun y H' yy=>?_⟩
   obtain⟨F3,x3,r3⟩:=yl y H' yy
   refine⟨F3,τ1,ds[i],by rw[hK];exact(R2.ext x3).rv,by rw[hK];exact r3,?_⟩
   rw[so2]
   cases e1:set ds[i] (xu tn.length idx τ) with
   |no=>rw[e1] at cl;cases cl
   |ex c=>rw[e1] at cl;cases cl
   |ok τ2=>
    rw[e1] at cl
    simp only at cl
    intro σ2 _ RR _
    rw[hK] at RR
    have RR:=RR _ _ (R2.ext x3)
    have n3:=so.no _ _ _ e1 (yU _ _ _)
    have so3:∀d,set d τ2=set d (xu tn.length idx τ):=fun d=>so.ov d _ _ _ e1
    cases e2:ft τ2 with
    |no=>rw[e2] at cl;cases cl
    |ex c=>rw[e2] at cl;cases cl
    |ok b=>
     rw[e2] at cl
     refine⟨F3,τ2,by rw[hK];exact RR.rv,?_⟩
     rw[e2]
     intro F4 H4 x4
     have x34:=x3.trans x4
     cases b with
     |false=>
      simp only at cl
      rw[if_neg (by simp)]
      obtain⟨y1,y2⟩:=jp x2 hm x34
      have ha:H4 acc=some (.lst vs):=x34.hh acc _ zr
      have eH:H4=upd (xA H4 acc) acc (.lst vs):=by
       rw[uN];funext b;unfold upd;split
       ·rename_i z;subst z;exact ha
       ·rfl
      refine⟨ds.length-(i+1),by lia,rfl,hlt,F4,xA H4 acc,τ2,dn,rs,vs,y1,wI _ _,eH,r2.mono x34.ff,RR.ext x4,n3,so3,cl,ex⟩
     |true=>
      simp only at cl
      rw[if_pos rfl]
      cases e3:fe τ2 with
      |no=>rw[e3] at cl;cases cl
      |ex c=>rw[e3] at cl;cases cl
      |ok z=>
       rw[e3] at cl
       simp only at cl
       cases e4:xt set ft fe (xu tn.length idx τ) (ds.drop (i+1)) with
       |no=>rw[e4] at cl;cases cl
       |ex c=>rw[e4] at cl;cases cl
       |ok rs'=>
        rw[e4] at cl
        have ers:z::rs'=rs:=by simpa using cl
        refine⟨F4,τ2,by rw[hK];exact(RR.ext x4).rv,?_⟩
        rw[e3]
        intro v F5 H5 x5 r5
        rw[hK] at r5
        have x35:=x34.trans x5
        obtain⟨y1,y2⟩:=jp x2 hm x35
        refine⟨vs,x35.hh acc _ zr,?_,ds.length-(i+1),by lia,rfl,hlt,F5,xA H5 acc,τ2,dn++[z],rs',vs++[v],y1,wI _ _,by rw[uN],(r2.mono x35.ff).append (Reps.cons r5 Reps.nil),?_,n3,so3,e4,?_⟩
        ·have:=congrArg List.length ex
         rw[← ers,length_append,length_cons,r2.length] at this
         lia
        ·exact((RR.ext x4).ext x5).free_upd n3 hacc y2 (.inr ⟨_,x35.hh acc _ zr⟩)
        ·rw[ex,← ers,append_assoc];rfl
  ·have e:i=ds.length:=by lia
   subst e
   rw[List.drop_length,xt] at cl
   cases cl
   rw[append_nil] at ex
   subst ex
   exact .inl ⟨i1 (le_refl _),k acc vs F2 Hm (x.trans x2) hm r2⟩
theorem xK(hb:wV X.env.scope scope=true)(hc:X.calm=true)(hfr:FreeOk scope X.N fr idx)(so:uv set)(hi:U8 X tg iter fi)
  (hg:∀s H C fp,PDG (X.comp scope (tn++fr) s H C fp) tg set) (ht:∀s H C fp,VD (X.comp scope (tn++fr) s H C fp) ifs ft) (he:∀s H C fp,PDE (X.comp scope (tn++fr) s H C fp) elt fe)
  (hs:∀x,foldedSetIterable iter X.env x=pure x:=by intro _;rfl):PDF X (.ListComp elt [⟨tg,iter,ifs,0⟩] scope pos) (yQ tn.length idx fi set ft fe):=
 PE.imp (Ud (s0:=wz tn.length idx) (g:=tG (X.comp scope (tn++fr) X.s₀ X.H₀ 0 []) set) (ti:=tTs (X.comp scope (tn++fr) X.s₀ X.H₀ 0 []) ft) (te:=tE (X.comp scope (tn++fr) X.s₀ X.H₀ 0 []) fe)
  (xI hb) hc (fun σ _=>by simp[wz,hfr.len]) (uC hfr) hi hg ht he hs) (vp so rfl)
theorem XF{i:Nat}{y:Str}{py spos:Pos}(hN:X.N.Nodup)(hiN:X.N[i]?=some y)(hy:X.env.scope.names.lookup y=some .local)
  (hsw:swapsWith (.ListComp elt [⟨tg,iter,ifs,0⟩] scope pos) (some (.Name y py)) spos.line X.env=pure true)
  (hb:wV X.env.scope scope=true) (hc:X.calm=true) (hfr:FreeOk scope X.N fr idx) (so:uv set) (hi:U8 X tg iter fi)
  (hg:∀s H C fp,PDG (X.comp scope (tn++fr) s H C fp) tg set) (ht:∀s H C fp,VD (X.comp scope (tn++fr) s H C fp) ifs ft) (he:∀s H C fp,PDE (X.comp scope (tn++fr) s H C fp) elt fe)
  (hs:∀x,foldedSetIterable iter X.env x=pure x:=by intro _;rfl):PDS X (.Assign [.Name y py] (.ListComp elt [⟨tg,iter,ifs,0⟩] scope pos) spos) (y7 i fun τ=>(yQ tn.length idx fi set ft fe τ).bind fun ds=>.ok (.lst ds)):=
 PS.imp (Y6 (s0:=wz tn.length idx) (g:=tG (X.comp scope (tn++fr) X.s₀ X.H₀ 0 []) set) (ti:=tTs (X.comp scope (tn++fr) X.s₀ X.H₀ 0 []) ft) (te:=tE (X.comp scope (tn++fr) X.s₀ X.H₀ 0 []) fe) hN hiN hy hsw
  (xI hb) hc (fun σ _=>by simp[wz,hfr.len]) (uC hfr) hi hg ht he hs) fun E σ H ⟨B,Z,F,τ,R,h⟩=>by
  refine vp (X:=X) (tn:=tn) (idx:=idx) (fi:=fi) (ft:=ft) (fe:=fe) so (Y:=X.comp scope (tn++fr) X.s₀ X.H₀ 0 []) rfl σ H (fun x H1=>j3 i x σ H1 E.nx) ⟨F,τ,R.rv,?_⟩
  have h':=h.of.bind
  refine h'.imp fun ds g p vs F1 H1 x hp r=>?_
  have x2:=x.trans (Ext.new (o:=.lst vs) x.fh hp)
  refine g _ _ _ x2.ff ((R.ext x2).set ?_)
  simp only[Rep]
  exact⟨p,vs,rfl,zr,r.mono (zI (zv x.fh hp))⟩
theorem Yy{i:Nat}{y:Str}{py spos:Pos}(hN:X.N.Nodup)(hiN:X.N[i]?=some y)(hy:X.env.scope.names.lookup y=some .local)
  (hsw:swapsWith (.ListComp elt [⟨tg,iter,ifs,0⟩] scope pos) (some (.Name y py)) spos.line X.env=pure true)
  (hb:wV X.env.scope scope=true) (hc:X.calm=true) (hfr:FreeOk scope X.N fr idx) (so:uv set) (hi:U8 X tg iter fi)
  (hg:∀s H C fp,PDG (X.comp scope (tn++fr) s H C fp) tg set) (ht:∀s H C fp,VD (X.comp scope (tn++fr) s H C fp) ifs ft) (he:∀s H C fp,PDE (X.comp scope (tn++fr) s H C fp) elt fe)
  (hs:∀x,foldedSetIterable iter X.env x=pure x:=by intro _;rfl):PDS X (.Assign [.Name y py] (.ListComp elt [⟨tg,iter,ifs,0⟩] scope pos) spos) (ul i (yQ tn.length idx fi set ft fe)):=
 PS.imp (Y6 (s0:=wz tn.length idx) (g:=tG (X.comp scope (tn++fr) X.s₀ X.H₀ 0 []) set) (ti:=tTs (X.comp scope (tn++fr) X.s₀ X.H₀ 0 []) ft) (te:=tE (X.comp scope (tn++fr) X.s₀ X.H₀ 0 []) fe) hN hiN hy hsw
  (xI hb) hc (fun σ _=>by simp[wz,hfr.len]) (uC hfr) hi hg ht he hs) fun E σ H ⟨B,Z,F,τ,R,h⟩=>by
  refine vp (X:=X) (tn:=tn) (idx:=idx) (fi:=fi) (ft:=ft) (fe:=fe) so (Y:=X.comp scope (tn++fr) X.s₀ X.H₀ 0 []) rfl σ H (fun x H1=>j3 i x σ H1 E.nx) ⟨F,τ,R.rv,?_⟩
  exact h.of.imp fun ds g p vs F1 H1 x hp r=>g _ F1 _ x.ff ((R.ext x).setO hp r)
end
section
variable{X:Cx}{pos:Pos}{e tg:Expr}{es:List Expr}{fe:FE}{fs:FA}{c f x:Str}{i:Nat}{C:Addr}
end
section
variable{P:Program}{w:World}{K:Frag}{mg:Str→Option Value}{base:Heap}
end
section
variable{X:Cx}{pos:Pos}{e:Expr}{es:List Expr}{fs:FA}{c c2 m x y:Str}{i k n h_:Nat}{ps:List Str}
end
section
variable{X:Cx}{pos:Pos}{e a b:Expr}{es:List Expr}{fe fa fb fi:FE}{C:Addr}{c f x:Str}{i:Nat}
end
omit [Tabs] in
theorem vals_ints:∀{vs:List Value} {ns:List Int},IntsAre vs ns→Vals (ns.map V.int) vs
 |_,_,.nil=>.nil
 |_,_,.cons n t r=>.cons ⟨t,rfl⟩ (vals_ints r)
section
variable{X:Cx}{pins:List (Addr×Obj)}{σ:St}{F H:Hp}{s:Shared}{Q:VK}{E:Value→Shared→Prop}
end
section
variable{X:Cx}{pos:Pos}{C:Addr}{c f x:Str}{i:Nat}
end
open PySem.W
section
variable{P:Program}{w:World}{K:Frag}{mg:Str→Option Value}{base:Heap}
end
section
variable{P:Program}{w:World}{K:Frag}{mg:Str→Option Value}{base:Heap}
end
section
variable{X:Cx}{pos:Pos}{e:Expr}{es:List Expr}{fe:FE}{ff:FA}{c m x:Str}{i k n h_:Nat}{ps:List Str}
end
end FD
set_option Elab.async false
set_option linter.all false
namespace STW
open PySem
noncomputable abbrev Ris(l:List Nat):Prop:=l.Pairwise (· < ·)
noncomputable def TT(L:Bool)(t:SetTable):Prop:=t.led=L∧t.dummies = #[]∧Ris t.place.toList
section
variable{prog:Program}{w:World}{K:Type}[DecidableEq K]{knd:KeyKind prog w K}{A:Around}{E:Value→Shared→Prop}{s:Shared}{L:Bool}{a:Addr}{S:K→Bool}{n:Nat}{k:K}{x:Value}
noncomputable def SetT(knd:KeyKind prog w K)(L:Bool)(h:Heap)(a:Addr)(S:K→Bool)(n:Nat):Prop:=
 ∃o es ep t,h.get? a=some o∧o.ExactSet∧o.data=.set es ep t∧ElemsOf knd es.toList∧(∀k,S k=true↔∃e∈es.toList,knd.is k e.2=true)∧es.size<scanBound∧t.fits es.size=true∧es.size=n∧TT L t
end
open PyProof.Rows
section
variable{prog:Program}{w:World}{A:Around}{R:Result→Shared→Prop}{I:Addr}{fp wr:List Addr}{G:Array GenState→Array GenState→Prop}{n:Nat}{P:Nat→Value→Prop}{St:Nat→Shared→Prop}{L:Bool}
end
section
variable{prog:Program}{w:World}{A:Around}{E:Value→Shared→Prop}{s:Shared}
end
open PyProof.Rows
section
variable{prog:Program}{w:World}{A:Around}{E:Value→Shared→Prop}{s:Shared}
end
open PyProof.Rows
namespace FS
end FS
section
variable{prog:Program}{w:World}{A:Around}{E:Value→Shared→Prop}{s:Shared}
end
open PySem PyProof.Rows
section
variable{prog:Program}{w:World}{A:Around}{E:Value→Shared→Prop}{s:Shared}{I a:Addr}{es:Array (Int×Value)}{ep:Nat}{t:SetTable}{Q:Option Value→Shared→Prop}
end
open PySem PyProof.Rows
section
variable{prog:Program}{w:World}{A:Around}{E:Value→Shared→Prop}{s:Shared}{I a:Addr}{es:Array (Int×Value)}{ep:Nat}{t:SetTable}
end
open PySem PyProof.Rows
section
variable{prog:Program}{w:World}{A:Around}{E:Value→Shared→Prop}{s:Shared}{I a T:Addr}{es:Array (Int×Value)}{ep:Nat}{t:SetTable}{Q:Option Value→Shared→Prop}
end
open PySem PyProof.Rows
section
variable{prog:Program}{w:World}{A:Around}{E:Value→Shared→Prop}{s:Shared}{a:Addr}{es:Array (Int×Value)}{ep:Nat}{t:SetTable}
end
open PySem PyProof.Rows
section
variable{prog:Program}{w:World}{A:Around}{E:Value→Shared→Prop}{s:Shared}{a:Addr}{es:Array (Int×Value)}{ep:Nat}{t:SetTable}
end
open PySem PyProof.Rows
section
variable{prog:Program}{w:World}{A:Around}{E:Value→Shared→Prop}{s:Shared}{a:Addr}{es:Array (Int×Value)}{ep:Nat}{t:SetTable}
end
open PySem PyProof.Rows
section
variable{prog:Program}{w:World}{A:Around}{E:Value→Shared→Prop}{s:Shared}{a:Addr}{ns:List Int}{n:Nat}
end
end STW
set_option Elab.async false
set_option linter.all false
set_option maxRecDepth 100000
namespace FD
open PySem PySem.Spec PyProof.Rows L2
variable[Tabs]
section
variable{X:Cx}{e:Expr}{pos:Pos}{fs:FA}
end
section
variable{X:Cx}
end
end FD
set_option Elab.async false
set_option linter.all false
namespace L2
open PySem PySem.Spec PyProof.Rows
section
variable{κ:Type}[DecidableEq κ]
end
section
variable{P:Program}{w:World}{H:Hp}{h:Heap}{a:Addr}
end
section
variable{X:Cx}{pins:List (Addr×Obj)}{σ:St}{H:Hp}{s:Shared}{a:Addr}{y v:V}{u r:Value}{o:Option V}{A:Around}{E:Value→Shared→Prop}
end
section
variable{X:Cx}{pins:List (Addr×Obj)}{σ:St}{H:Hp}{s:Shared}{a:Addr}{kvs:List (Key×V)}{k:Key}{u:Value}{A:Around}{E:Value→Shared→Prop}
end
section
variable{X:Cx}{o i e value:Expr}{pos pos' tpos:Pos}{td ty tv:TE}
end
section
variable{X:Cx}{pos:Pos}
end
section
variable{X:Cx}{pins:List (Addr×Obj)}{σ:St}{H:Hp}{s:Shared}{a:Addr}{y d:V}{u r:Value}{o:Option V}{A:Around}{E:Value→Shared→Prop}
end
section
variable{X:Cx}{o e f:Expr}{apos cpos:Pos}{td ty tx:TE}
end
section
variable{X:Cx}{pins:List (Addr×Obj)}{σ:St}{H:Hp}{s:Shared}{a:Addr}{kvs:List (Key×V)}{A:Around}{E:Value→Shared→Prop}
end
section
variable{X:Cx}{pins:List (Addr×Obj)}{σ:St}{H:Hp}{s:Shared}{a:Addr}{y:V}{u:Value}{A:Around}{E:Value→Shared→Prop}
end
section
variable{κ:Type}[DecidableEq κ]
end
end L2
set_option Elab.async false
set_option linter.all false
set_option maxRecDepth 100000
namespace STW
open PySem PyProof.Rows
section
variable{prog:Program}{w:World}{K:Type}[DecidableEq K]{knd:KeyKind prog w K}{A:Around}{E:Value→Shared→Prop}{s:Shared}{d:Addr}{kvs:List (K×Value)}{ep:Nat}
end
section
variable{prog:Program}{w:World}{K:Type}[DecidableEq K]{knd:KeyKind prog w K}{A:Around}{E:Value→Shared→Prop}{s:Shared}{d:Addr}{kvs:List (K×Value)}{ep:Nat}{ns:List Int}{b:Bool}
end
end STW
set_option Elab.async false
set_option linter.all false
set_option maxRecDepth 100000
namespace FD
open PySem PySem.Spec PyProof.Rows L2
variable[Tabs]
section
variable{X:Cx}{pos pp kp p1 p2:Pos}{kk:Nat}
end
section
variable{X:Cx}{i:Nat}{y:Str}{e0 e0' e0'' e1:Expr}{f0 f1:FE}{q1 q2 q3 cp sp sp2 lp ap ip atp callp xp:Pos}
end
section
variable{X:Cx}{i r:Nat}{x y:Str}{e0 e0' e0'' e1 iter:Expr}{fi:FA}{q1 q2 q3 cp sp sp2 lp ap ip atp callp xp tp pos:Pos}
end
section
variable{X:Cx}{i r:Nat}{x y c:Str}{iter elt:Expr}{fi:FA}{body:List Stmt}{scope:Scope}{yp tp dp a1 fp rp cpos cp sp p1 p2 kp:Pos}{kk:Nat}
end
end FD
set_option Elab.async false
set_option linter.all false
set_option maxRecDepth 100000
namespace STW
open PySem PyProof.Rows
section
variable{prog:Program}{w:World}{K:Type}[DecidableEq K]{knd:PySem.KeyKind prog w K}{A:Around}{E:Value→Shared→Prop}{s:Shared}{d:Addr}{kvs:List (K×Value)}{ep:Nat}{ss:List Str}
end
end STW
set_option Elab.async false
set_option linter.all false
set_option maxRecDepth 100000
namespace FD
open PySem PySem.Spec PyProof.Rows L2
variable[Tabs]
section
variable{X:Cx}
end
noncomputable abbrev FG2:=DS→List Str→Option (DS×List Str)
section
variable{X:Cx}{i r:Nat}{x y:Str}{e0 iter:Expr}{fk:FE}{fi:FA}{f:FG2}{q1 sp bp ap tp pos:Pos}{kk:Nat}{body:List Stmt}
end
section
variable{X:Cx}{i r:Nat}{x y sx:Str}{iter:Expr}{f:FG2}{st:Stmt}{yp dp a1 rp p1 pos pp:Pos}
end
end FD
set_option Elab.async false
set_option linter.all false
set_option maxRecDepth 100000
namespace STW
open PySem PyProof.Rows
section
variable{prog:Program}{w:World}{A:Around}{R:Result→Shared→Prop}{I:Addr}{fp wr:List Addr}{G:Array GenState→Array GenState→Prop}{n:Nat}{P:Nat→Value→Prop}{St:Nat→Shared→Prop}{L:Bool}
end
section
variable{prog:Program}{w:World}{A:Around}{E:Value→Shared→Prop}{s:Shared}
end
section
variable{prog:Program}{w:World}{A:Around}{E:Value→Shared→Prop}{s:Shared}{a:Addr}{ns:List Str}{n:Nat}
end
end STW
set_option Elab.async false
set_option linter.all false
set_option maxRecDepth 100000
namespace FD
open PySem PySem.Spec PyProof.Rows L2
variable[Tabs]
section
variable{X:Cx}{e:Expr}{pos:Pos}{fs:FA}
end
end FD
set_option Elab.async false
set_option linter.all false
set_option maxRecDepth 100000
namespace STW
open PySem PyProof.Rows
section
variable{prog:Program}{w:World}{K:Type}[DecidableEq K]{knd:KeyKind prog w K}{A:Around}{E:Value→Shared→Prop}{s:Shared}{d:Addr}{kvs:List (K×Value)}{ep:Nat}
end
end STW
set_option Elab.async false
set_option linter.all false
set_option maxRecDepth 100000
namespace FD
open PySem PySem.Spec PyProof.Rows L2
variable[Tabs]
section
variable{X:Cx}{pos apos cpos:Pos}{e o f tg:Expr}{fe fo ff:FE}
end
noncomputable abbrev SI:=List (Str×Int)
noncomputable abbrev FG3:=DS→SI→Option (DS×SI)
section
variable{X:Cx}{i r:Nat}{x y:Str}{e0 e0' ev iter:Expr}{fk fv:FE}{fi:FA}{f:FG3}{q1 q2 sp bp ap tp pos gp gc c0 c1 cp ip:Pos}{k0 k1:Nat}{body:List Stmt}
end
section
variable{X:Cx}{i:Nat}{y:Str}{f:FG3}{st:Stmt}{yp dp a1 rp p1:Pos}
end
section
variable{X:Cx}{pos p1 p2:Pos}{k1 k2:Nat}{x:Str}{n:Int}
end
section
variable{prog:Program}{w:World}{A:Around}{R:Result→Shared→Prop}{E:Value→Shared→Prop}{I S:Addr}{fp wr:List Addr}{n:Nat}{P:Nat→Value→Prop}{St:Nat→Heap→Prop}{kw:List (Str×Value)}{Ph:Heap→Prop}
end
variable[Tabs]
section
variable{X:Cx}{pos pp kp:Pos}{e e2:Expr}{fe f2:FE}
end
section
open PySem.SeqAt
open PySem.AutoSeq1 (wpAny_loadPart')
open PySem.MeetsSeq PySem.MeetsSeq2 PySem.MeetsSeq3
end
section
variable{prog:Program}{w:World}{A:Around}{E:Value→Shared→Prop}{s:Shared}
end
variable[Tabs]
section
variable{X:Cx}
end
section
variable{X:Cx}
end
section
variable{X:Cx}
end
end FD
set_option Elab.async false
set_option linter.all false
set_option maxRecDepth 100000
namespace STW
open PySem PyProof.Rows
section
variable{prog:Program}{w:World}{K:Type}[DecidableEq K]{knd:KeyKind prog w K}{A:Around}{R:Result→Shared→Prop}{I d:Addr}{fp wr:List Addr}{n:Nat}{P:Nat→Value→Prop}{St:Nat→Heap→Prop}
end
section
variable{prog:Program}{w:World}{K:Type}[DecidableEq K]{knd:KeyKind prog w K}{A:Around}{E:Value→Shared→Prop}{s:Shared}
end
end STW
set_option Elab.async false
set_option linter.all false
set_option maxRecDepth 100000
namespace FD
open PySem PySem.Spec PyProof.Rows L2
variable[Tabs]
section
variable{X:Cx}
end
section
variable{X:Cx}{e:Expr}{pos:Pos}{fs:FA}
end
open PySem.W
section
variable{n:Nat}{κ:Nat→List Int}
end
section
variable{prog:Program}{w:World}{A:Around}{E:Value→Shared→Prop}{s:Shared}
end
variable[Tabs]
section
variable{X:Cx}{pins:List (Addr×Obj)}{σ:St}{F H:Hp}{τ:DS}{s:Shared}{Q:VK}{E:Value→Shared→Prop}
end
section
variable{P:Program}{w:World}{K:Frag}{mg:Str→Option Value}{base:Heap}
end
section
variable{X:Cx}{pos:Pos}{e a b:Expr}{es xm:List Expr}{fe fb:FE}{fs:FA}{c m x:Str}{i k n:Nat}{ps:List Str}{fo:FOb}
end
section
variable{X:Cx}{pins:List (Addr×Obj)}{σ:St}{H:Hp}{s:Shared}{a:Addr}{cls:Value}
end
section
variable{X:Cx}
variable{e a b o:Expr}{xm:List Expr}{pos apos cpos:Pos}{t u:TS}{te ta tb:TE}{tA tB':TT}
end
section
variable{X:Cx}{e a b o c:Expr}{es xm:List Expr}{pos apos cpos:Pos}{fe fa fb:FE}{ga gb:FT}{f g:FS}{st:Stmt}{sts:List Stmt}
end
section
variable{X:Cx}{pos:Pos}{i j:Nat}{c f x y:Str}{C:Addr}{sts:List Stmt}{g:FS}
end
section
variable{P:Program}{w:World}{K:Frag}{mg:Str→Option Value}{base:Heap}
end
section
variable{X:Cx}{pos:Pos}{c x y:Str}{i j k:Nat}{ps:List Str}
end
section
variable{X:Cx}{pos p3:Pos}{e:Expr}{fe:FE}
end
section
variable{X:Cx}{scope:Scope}{tn fr:List Str}{idx:List Nat}{tg iter elt:Expr}{pos:Pos}{fi:FA}{set:FG}{fo:FOb}{i p:Nat}{c:Str}
end
section
variable{P:Program}{w:World}{K:Frag}{mg:Str→Option Value}{base:Heap}
end
section
variable{X:Cx}{pos:Pos}{e a b:Expr}{es xm:List Expr}{fs:FA}{c m x:Str}{i k n:Nat}{ps:List Str}
end
noncomputable abbrev KI:=List (Key×Int)
noncomputable abbrev FD2:=DS→KI→Option (DS×KI)
section
variable{X:Cx}{i j r:Nat}{st:Stmt}{ss s1 s2:List Stmt}{fs:FS}{f g:FD2}{y:Str}{e e0 e0' ev iter c tg:Expr}{fe fk fv:FE}{gt:FT}{fi:FA}
noncomputable def dl(fs:FS):FD2:=fun τ ks=>match fs τ with
 |.nx τ'=>some (τ',ks)
 |_=>none
end
section
variable{X:Cx}
end
noncomputable def tR(K:Frag)(r:DS→Rs D)(P:Str→St→Hp→Prop):TE:=fun σ H Q=>∃F τ,RV K F τ σ H∧match r τ with
 |.ok d=>Ev K F H Q d
 |.ex c=>∀F' H',Ext F H F' H'→P c σ H'
 |.no=>False
noncomputable def PDR(X:Cx)(e:Expr)(r:DS→Rs D):Prop:=PE X e (tR X.K r (XA X))
section
variable{X:Cx}{pins:List (Addr×Obj)}{σ:St}{H:Hp}{s:Shared}{a:Addr}{cls:Value}
theorem X3(hx:∀b∈X.ex,∃o,(b,o)∈X.pn)(I:Inv X pins σ H s){E:XK}{e:Value}{s':Shared}(h:CXD X.prog X.w X.stack H s E e s'):∃a cls H',e=.ref a∧Inv X pins σ H' s'∧TrAt X H' s'.heap a cls .none∧E cls none H':=by
 obtain⟨a,cls,H',rfl,os,bare,un,hok,⟨oe,vs,T,oT,ts,e1,e2,e0,e3,e4,e5,e6,e7,e8,z1,z2,z3,z4,z5⟩,q⟩:=h
 obtain⟨hh,g,d,t,os'⟩:=s'
 obtain rfl:os'=s.os:=os
 have en:∀{b:Addr},s.heap.get? b=none→X.s₀.heap.get? b=none:=fun {b} z=>by
  cases q:X.s₀.heap.get? b with
  |none=>rfl
  |some o=>
   by_cases hb:b∈X.ex
   ·obtain⟨o',m⟩:=hx b hb
    have:=(I.pin _ (mem_append_left _ m)).1
    rw[z] at this;cases this
   ·obtain⟨ob,z'⟩:=I.base.there b o q hb
    rw[z] at z';cases z'
 have n1:∀{b:Addr},s.heap.get? b=none→H' b=none→Nw X H' b:=fun {b} z n=>⟨n,en z,fun p hp y=>by
  have:=(I.pin p (mem_append_left _ hp)).1
  rw[y,z] at this;cases this⟩
 exact⟨a,cls,H',rfl,I.call (h':=hh) (g':=g) (d':=d) (t':=t) (ch:=[]) un hok bare (fun b z=>absurd z (by simp)),⟨n1 z2 z1,oe,vs,T,oT,ts,e1,e2,e0,e3,e4,n1 z4 z3,e5,e6,e7,e8,z5⟩,q⟩
theorem JO(hx:∀b∈X.ex,∃o,(b,o)∈X.pn){σ:St}(H:Hp)(s:Shared)(I:Inv X pins σ H s){e:Value}{s':Shared}(h:CXD X.prog X.w X.stack H s (XV X σ) e s'):X.xe e s':=by
 obtain⟨a,cls,H',rfl,J,x,q⟩:=X3 hx I h
 exact q s' a (Inv.nil J) x.exc
end
section
variable{X:Cx}{pos:Pos}{e:Expr}{es:List Expr}{fe:FE}{fs:FA}
noncomputable def wB(g:List D→Rs D)(fs:FA):DS→Rs D:=fun τ=>match fs τ with
 |.ok ds=>g ds
 |_=>.no
theorem uZ{k n:Nat}{ps:List Str}{g:List D→Rs D}{x:Str}{p:Pos}(D:DefX X.prog X.w X.K X.mg X.base x k n ps g)(hx:∀b∈X.ex,∃o,(b,o)∈X.pn)(hr:Room k X.A)(ha:PDA X (e::es) fs)(hfs:∀τ ds,fs τ=.ok ds→ds.length=(e::es).length)(hn:(e::es).length=n:=by rfl)(hg:Gl X x:=by rfl)(hdb:(x==("__debug__" : Str))=false:=by decide)
  (he:starEach (e::es) X.env=(false,eval e X.env)::starEach es X.env:=by rfl) (hpl:(backTo pos (starEach es X.env)).any (·.1)=false:=by rfl):PDR X (.Call (.Name x p) (e::es) [] pos) (wB g fs):=by
 obtain⟨f,fd,FF,hb,hk,hm⟩:=D
 rintro pins s σ H Q I ⟨F,τ,R,h⟩
 refine wpAny_Call_Name_kw (wT I hg hm ?_ hdb)
 refine callWith_K (h₀:=X.base) I.ok.mod.kin hk (thn (ha pos pins s σ H (fun vs H1=>vs.length=n∧∃ds F1,Ext F H F1 H1∧Reps X.K F1 ds vs∧match g ds with
  |.ok d=>Ev X.K F H Q d
  |.ex c=>∀F' H',Ext F H F' H'→XA X c σ H'
  |.no=>False) I ⟨F,τ,R,?_⟩) fun us s1 ⟨vs,H1,I1,r,hl,ds,F1,x1,rr,q⟩=>⟨I1.kIn,?_⟩) he hpl
 ·unfold wB at h
  cases z:fs τ with
  |ok ds=>rw[z] at h;exact fun vs F1 H1 x1 rr=>⟨by rw[← rr.length,hfs τ ds z,hn],ds,F1,x1,rr,h⟩
  |ex c=>rw[z] at h;exact h.elim
  |no=>rw[z] at h;exact h.elim
 ·have hsp:spX X.K n g vs H1 Q (XV X σ):=⟨hl,ds,F1,x1.fh,x1.tt R.tt,rr,by
   cases z:g ds with
   |ok d=>rw[z] at q;exact q.ext x1
   |ex c=>rw[z] at q;exact fun F' H' cls xx hc=>(q F' H' (x1.trans xx)).xv hc
   |no=>rw[z] at q;exact q⟩
  have hl2:us.length=ps.length:=by
   rw[← r.length,hl]
   exact Eq.trans hl.symm (FF.len vs H1 Q (XV X σ) hsp)
  have bt:=hb s1 us I1.kIn (by rw[append_nil];exact hl2)
  rw[append_nil] at bt
  refine wpAny_call (codeAny_mono (FF.run X.A X.stack s1 H1 ⟨us,[]⟩ us vs Q (XV X σ) hr I1.env0 bt r hsp) fun r s' hq=>?_)
  cases r with
  |error e=>exact JO hx H1 s1 I1 hq
  |ok fl=>
   cases fl with
   |ret u=>exact I1.after hq
   |next=>exact False.elim hq
   |brk=>exact False.elim hq
   |cont=>exact False.elim hq
noncomputable def Y4(fe:FE)(r:DS→Rs D):DS→Rs D:=fun τ=>match fe τ with
 |.ok d=>match r τ with
  |.ok d2=>.ok (.tup [d,d2])
  |.ex c=>.ex c
  |.no=>.no
 |_=>.no
theorem WG{a b:Expr}{x1}{r:DS→Rs D}(ha:PDE X a fe)(hb:PDR X b r)(h1:starEach [a,b] X.env=[(false,eval a X.env),(false,eval b X.env)]:=by rfl)(h2:starEach [b] X.env=[(false,eval b X.env)]:=by rfl):PDR X (.Tuple [a,b] x1 pos) (Y4 fe r):=
 PE.imp (Wy (wq ha (wq hb u7 (by rw[h2];rfl)) (by rw[h1,h2]))) fun σ H Q z_=>by
  obtain⟨F,τ,R,h⟩:=z_
  unfold Y4 at h
  cases z:fe τ with
  |no=>rw[z] at h;exact h.elim
  |ex c=>rw[z] at h;exact h.elim
  |ok d=>
   rw[z] at h
   refine⟨F,τ,R,?_⟩
   rw[z]
   intro v F1 H1 x1 r1
   refine⟨F1,τ,R.ext x1,?_⟩
   cases z2:r τ with
   |no=>rw[z2] at h;exact h.elim
   |ex c=>rw[z2] at h;exact fun F2 H2 x2=>h F2 H2 (x1.trans x2)
   |ok d2=>
    rw[z2] at h
    intro v2 F2 H2 x2 r2
    refine⟨show(2:Nat)≤sizeLine by decide,fun p hp=>h _ _ _ ((x1.trans x2).trans (Ext.new (o:=.tup [v,v2]) x2.fh hp)) ?_⟩
    have ss:=zI (o:=.tup [v,v2]) (zv x2.fh hp)
    simp only[Rep]
    exact⟨p,_,rfl,SqT.of zr,Reps.cons ((r1.mono x2.ff).mono ss) (Reps.cons (r2.mono ss) Reps.nil)⟩
noncomputable def ZV(r:DS→Rs D):FS:=fun τ=>match r τ with
 |.ok d=>.rt d
 |.ex c=>.rs c τ
 |.no=>.no
theorem Z5{r:DS→Rs D}(h:PDR X e r):PDS X (.Return (some e) pos) (ZV r):=
 PS.imp (Zl h) fun E σ H ⟨B,Z,F,τ,R,q⟩=>⟨F,τ,R.rv,by
  unfold ZV at q
  cases z:r τ with
  |ok d=>rw[z] at q;exact fun v F1 H1 x r=>q v F1 H1 (R.ext x).out r
  |ex c=>rw[z] at q;exact fun F1 H1 x=>q σ F1 H1 x.ff (R.ext x)
  |no=>rw[z] at q;exact q⟩
noncomputable def UU:List D→Option Int
 |[.int i]=>some i
 |_=>none
theorem UT{ds:List D}{i:Int}(h:UU ds=some i):ds=[.int i]:=by
 unfold UU at h;split at h <;> cases h;rfl
noncomputable def ZT(ds:List D):Rs D:=match UU ds with
 |some i=>if i.natAbs.log2<1920 then .ok (.str (Str.ofString (toString i))) else .no
 |none=>.no
theorem U2:jD X (.type "str") ZT:=⟨fun vs H Q=>∃i,vs=[.int i]∧i.natAbs.log2<1920∧Q (.str (Str.ofString (toString i))) H,fun pins s σ H xs us Q I r z_=>by
  obtain⟨i,e,h1,q⟩:=z_
  subst e
  obtain⟨u,rfl,t,rfl⟩:=vals1 r
  exact PySem.P.str_of_int h1 ⟨.str _,H,I.tok _,⟨_,rfl⟩,q⟩,fun F H vs ds Q fh r h=>by
  unfold ZT at h
  cases q1:UU ds with
  |none=>rw[q1] at h;exact h.elim
  |some i=>
   rw[q1] at h
   have e:=UT q1
   subst e
   obtain⟨v,rfl,q⟩:=r.one
   simp only[Rep] at q;subst q
   obtain⟨z,h⟩:=zW h
   exact⟨i,rfl,z,h _ F H (Ext.refl fh) (by simp only[Rep])⟩⟩
end
theorem YM{prog:Program}{w:World}{A:Around}{R:Result→Shared→Prop}{s:Shared}{elt target iter:Expr}{scope:Scope}{pos:Pos}{it acc:Value}{env:Env}(I:Nat→Shared→Prop)
  (turn:∀n s,I n s→wpAny (model prog w) A (pyNext it) (fun r s₁=>match r with
   |none=>R (.ok .next) s₁
   |some v=>wpAny (model prog w) A (letOwnedTupleGo target it v) (fun _ s0=>wpAny (model prog w) A (assign target env v) (fun _ s₂=>
     wpAny (model prog w) A (eval elt env) (fun x s₄=>
      wpAny (model prog w) A (call (.builtin "list.append") [acc,x]) (fun _ s₅=>∃m,m<n∧I m s₅) (fun _ _=>False) s₄) (notedBy (model prog w) A env fun x s'=>R (.error x) s') s₂) (fun _ _=>False) s0) (fun _ _=>False) s₁) (fun _ _=>False) s)
  (n:Nat) (h:I n s) :
  codeAny (model prog w) A (.compLoop (.ListComp elt [⟨target,iter,[],0⟩] scope pos) 0 it acc env) R s:=by
 refine codeAny_loop rfl I (fun n s hI=>?_) n h
 show wpAny _ A ((compTurn (.ListComp elt [⟨target,iter,[],0⟩] scope pos) 0 it acc env).onRaise (fun x=>do noteFrame x env;theTreesLotGoes x)) _ _ s
 refine wpAny_noted ?_
 rw[compTurn_list]
 refine wpAny_bind (wpAny_standAt (wpAny_bind (wpAny_mono (turn n s hI) (fun r s₁ h₁=>?_) fun _ _ h'=>h'.elim)))
 cases r with
 |none=>exact wpAny_pure h₁
 |some v=>
  refine wpAny_bind (wpAny_mono h₁ (fun _ s0 h0=>?_) fun _ _ h'=>h'.elim)
  refine wpAny_bind (wpAny_mono h0 (fun _ s₂ h₂=>wpAny_bind (Yb ?_)) fun _ _ h'=>h'.elim)
  exact wpAny_bind (wpAny_bind (wpAny_mono h₂ (fun x s₄ h₄=>wpAny_bind (wpAny_mono h₄ (fun _ s₅ h₅=>wpAny_pure (wpAny_pure ⟨rfl,h₅⟩)) fun _ _ h'=>h'.elim)) fun _ _ h'=>h'))
section
variable{X:Cx}{scope:Scope}{N':List Str}{tg iter elt:Expr}{pos:Pos}{wi:TI}{g:TG}{s0:St→St}
noncomputable def Bad(X:Cx)(C:Addr)(a:Addr)(s':Shared):Prop:=∃m,s'.heap.Ns C m∧∀h',Heap.SameBut C s'.heap h'→∀cenv:Env,cenv.locals=C→wpAny (model X.prog X.w) X.A (PySem.passOn "comprehension.variables-let-go" (.ref a) cenv:Sem Value) (fun _ _=>False) X.xe { s' with heap:=h' }
theorem YL{pins pins':List (Addr×Obj)}{σ σ4:St}{H H4:Hp}{s s5:Shared}{fp:List Addr}{a:Addr}{cls:Value}{c:Str}{E':Value→Shared→Prop}{RR:Result→Shared→Prop}(D:Fst X)(I:Inv X pins σ H s)(hfp:∀b∈fp,vU X pins H b)
  (I5:Inv (wb (X.comp scope N' s H s.heap.objs.size fp) pins' E') [] σ4 H4 s5) (x5:jC (wb (X.comp scope N' s H s.heap.objs.size fp) pins' E') H4 s5.heap a cls)
  (hc:nsIn X.K mainGlobals c=some (some cls)) (xa:XA X c σ H4) (hRE:∀s',Bad X s.heap.objs.size a s'→RR (.error (.ref a)) s') :
  notedBy (model X.prog X.w) X.A (X.comp scope N' s H s.heap.objs.size fp).env (fun x s'=>RR (.error x) s') (.ref a) s5:=by
 have J:Inv X pins σ H4 s5:=I.call' (s':=s5) (ch:=fp) I5.os I5.base I5.hok I5.bare fun b hb=>let ⟨_,f1,_,f3,f4,f5⟩:=hfp b hb;⟨f3,f1,f4,f5⟩
 obtain⟨m,⟨oC,es,ep,hoC,hdC,hrC⟩,_⟩:=id I5.loc
 have hCf:H4 s.heap.objs.size=none:=I5.free
 have neC:∀p∈X.pn++pins,p.1≠s.heap.objs.size:=fun p hp=>ne_of_lt (Heap.lt_size (I.pin p hp).1)
 have J1:Inv X (pins++[(s.heap.objs.size,oC)]) σ H4 s5:=⟨J.ok,J.os,J.bare,J.base,J.loc,J.cell,J.free,J.freeC,fun p hp=>(by
  rw[← append_assoc] at hp
  rcases mem_append.mp hp with hp|hp
  ·exact J.pin p hp
  ·obtain rfl:p=(s.heap.objs.size,oC):=by simpa using hp
   refine⟨hoC,hCf,ne_of_gt I.lt,I.nofs (le_refl _),fun v z=>?_⟩
   have hdC':=hdC
   rw[show oC.data=.cell v from z] at hdC'
   cases hdC'),J.hok,J.len⟩
 have nw:∀{b:Addr} {ob:Obj} {vs:Array Value},Nw (wb (X.comp scope N' s H s.heap.objs.size fp) pins' E') H4 b→s5.heap.get? b=some ob→ob.data=.fields vs→Nw (wb X (pins++[(s.heap.objs.size,oC)]) X.xe) H4 b:=fun {b ob vs} n e d=>⟨n.1,vo I D.ex n.2.1,fun p hp z=>by
  have n21:s.heap.get? b=none:=n.2.1
  have hp:p∈X.pn++(pins++[(s.heap.objs.size,oC)]):=hp
  rw[← append_assoc] at hp
  rcases mem_append.mp hp with hp|hp
  ·have:=(I.pin p hp).1
   rw[z,n21] at this;cases this
  ·obtain rfl:p=(s.heap.objs.size,oC):=by simpa using hp
   have z:s.heap.objs.size=b:=z
   subst z
   rw[show s5.heap.get? s.heap.objs.size=some oC from hoC] at e
   cases e
   rw[hdC] at d;cases d⟩
 obtain⟨na,oe,vs,e1,e2,e0,e3,alt,v2⟩:=x5
 have x6:jC (wb X (pins++[(s.heap.objs.size,oC)]) X.xe) H4 s5.heap a cls:=⟨nw na e1 e3,oe,vs,e1,e2,e0,e3,alt.elim .inl fun ⟨T,oT,ts,fl,q1,q2,q3,q4,q5,q6⟩=>.inr ⟨T,oT,ts,fl,q1,nw q2 q4 q5,q3,q4,q5,q6⟩,v2⟩
 show wpAny _ X.A (noteFrame (.ref a) X.env) _ _ s5
 refine Zt (X:=wb X (pins++[(s.heap.objs.size,oC)]) X.xe) I.ok.frames ⟨D.ex,D.stk,D.fr⟩ (Inv.tryI J1 X.xe) x6 fun h7 J7 x7=>hRE _ ?_
 have J7p:=Inv.untry I.ok J7
 have J7':Inv X pins σ H4 { s5 with heap:=h7 }:=⟨I.ok,J7p.os,J7p.bare,J7p.base,J7p.loc,J7p.cell,J7p.free,J7p.freeC,fun p hp=>J7p.pin p (by rw[← append_assoc];exact mem_append_left _ hp),J7p.hok,J7p.len⟩
 have hC7:h7.get? s.heap.objs.size=some oC:=(J7p.pin (s.heap.objs.size,oC) (by simp)).1
 refine⟨m,⟨oC,es,ep,hC7,hdC,hrC⟩,fun h8 sb cenv _=>?_⟩
 have J8:Inv X pins σ H4 { s5 with heap:=h8 }:=Inv.turned (s:={ s5 with heap:=h7 }) (h':=h8) (t':=s5.toks) (I:=J7') (it:=s.heap.objs.size) (fun b o hb e=>(sb.2 b hb).trans e) hCf (ne_of_gt I.lt) (.inr I.sz) (fun x c e=>by
  obtain⟨v,z⟩:=I.cell x c e
  exact ne_of_lt z.lt) neC
 obtain⟨na7,oe7,vs7,T,oT,ts,p1,p2,p0,p3,p4,nT,neT,pT,dT,p9,w2⟩:=x7
 have cin:(s.heap.objs.size,oC)∈X.pn++(pins++[(s.heap.objs.size,oC)]):=by simp
 have k1:h8.get? a=some oe7:=(sb.2 a (Ne.symm (na7.2.2 _ cin))).trans p1
 have kT:h8.get? T=some oT:=(sb.2 T (Ne.symm (nT.2.2 _ cin))).trans pT
 have less:∀{b:Addr},Nw (wb X (pins++[(s.heap.objs.size,oC)]) X.xe) H4 b→Nw (wb X pins X.xe) H4 b∧Nw X H4 b:=fun n=>⟨⟨n.1,n.2.1,fun p hp=>n.2.2 p (by
  have hp:p∈X.pn++pins:=hp
  show p∈X.pn++(pins++[(s.heap.objs.size,oC)])
  rw[← append_assoc];exact mem_append_left _ hp)⟩,n.1,n.2.1,fun p hp=>n.2.2 p (mem_append_left _ hp)⟩
 unfold PySem.passOn
 refine wpAny_bind (wpAny_field k1 p3 p4 ?_)
 show wpAny _ _ (do setFlight (.ref a) cenv.frame;throw (.ref a)) _ _ _
 refine wpAny_bind ?_
 unfold setFlight
 refine wpAny_bind (wpAny_field k1 p3 p4 ?_)
 rw[if_pos (show(Value.ref T != Value.none)=true from by simp)]
 refine wpAny_setField kT dT (xo p9) (wpAny_throw ?_)
 have J9:=Inv.untry I.ok (YQ (X:=wb X pins X.xe) (fun v=>v.setIfInBounds 3 (cenv.frame.elim Value.none fun f=>rawInt f)) ⟨D.ex,D.stk,D.fr⟩ (Inv.tryI J8 X.xe) (less nT).1 kT dT)
 refine xa _ a cls hc (Inv.nil J9) ⟨(less na7).2,oe7,vs7,?_,p2,p0,p3,.inr ⟨T,_,_,cenv.frame.elim Value.none fun f=>rawInt f,p4,(less nT).2,neT,uc kT dT,Obj.data_mapFields dT _,?_⟩,w2⟩
 ·show(h8.update T _).get? a=some oe7
  rw[Heap.get?_update_other _ _ neT];exact k1
 ·simp[Array.getElem?_setIfInBounds,xo p9]
theorem Yn{pins:List (Addr×Obj)}{σ:St}{H:Hp}{s:Shared}{QQ:V→Hp→Prop}{J:It}{fp:List Addr}{it acc:Addr}{tn:Nat→Heap→Prop}{RR:Addr→Result→Shared→Prop}{E:Value→Shared→Prop}{W:Nat→Nat→St→Hp→Prop}{m0:Nat}{r:DS→Rs D}
  (D:Fst X) (S:y0 X scope) (hc:X.calm=true) (hl:(s0 σ).length=N'.length)
  (hσ:∀(i:Nat) (v:V),(s0 σ)[i]?=some (some v)→∃(x:Str) (j:Nat),N'[i]?=some x∧X.N[j]?=some x∧σ[j]?=some (some v)∧scope.names.lookup x=some .free)
  (hg:∀s H C fp,PG (X.comp scope N' s H C fp) tg g) (he:∀s H C fp pins E,(∀b∈fp,∃o,(b,o)∈pins)→PDR (wb (X.comp scope N' s H C fp) pins E) elt r)
  (I:Inv X pins σ H s) (T:ZM X.prog X.w X.K tg J fp it tn) (st:tn 0 s.heap) (hfp:∀b∈fp,vU X pins H b) (hlt:∀b∈fp,b<s.heap.objs.size) (hacc:acc<s.heap.objs.size)
  (w0:W 0 m0 (s0 σ) H) (turn:∀i m σ1 H,W i m σ1 H→(J.stop i H∧QQ (.ref acc) H)∨(J.go i H∧∀x H',J.yld i H x H'→g x σ1 H' fun σ2 H2=>
    tR X.K r (fun c _ H3=>XA X c σ H3) σ2 H2 fun y H4=>∃ys,H4 acc=some (.lst ys)∧ys.length<sizeLine∧∃m',m'<m∧W (i+1) m' σ2 (upd H4 acc (.lst (ys++[y])))))
  (hRR:∀s',(∃m,s'.heap.Ns s.heap.objs.size m)→(∀h',Heap.SameBut s.heap.objs.size s'.heap h'→EP X pins σ (fun v H'=>QQ v H'∧H' s.heap.objs.size=none) (.ref acc) { s' with heap:=h' })→RR s.heap.objs.size (.ok .next) s')
  (hRE:∀a s',Bad X s.heap.objs.size a s'→RR s.heap.objs.size (.error (.ref a)) s') :
  wpAny (model X.prog X.w) X.A (newFunctionEnv scope X.env.globals (vq scope X.env) [] X.env.qual none .none (some X.env)) (fun cenv s₄=>
   codeAny (model X.prog X.w) X.A (.compStart (.ListComp elt [⟨tg,iter,[],0⟩] scope pos) 0 (.ref it) (.ref acc) { cenv with scope:=relabel scope X.env }) (RR cenv.locals) s₄) E s:=by
 refine wpAny_newFunctionEnv S.nocell (by intro y hy;simp at hy) (fun h1 hns hsb=>?_) S.kind
 have keep3:∀b o,s.heap.get? b=some o→h1.get? b=some o:=fun b o e=>hsb.extBut b o (ne_of_lt (Heap.lt_size e)) (get?_push_of_some _ e)
 have Y0:Inv (X.comp scope N' s H s.heap.objs.size fp) [] (s0 σ) H { s with heap:=h1,toks:=s.toks+([]:List (Str×Value)).length }:=Ym S I hfp hlt hns keep3 hl hσ
 have fpY:∀{H':Hp},(∀b∈fp,H' b=none)→∀b∈fp,vU (X.comp scope N' s H s.heap.objs.size fp) [] H' b:=fun {H'} hn b hb=>by
  obtain⟨f0,f1,f2,f3,f4,f5⟩:=hfp b hb
  refine⟨hn b hb,ne_of_lt (hlt b hb),fun z=>?_,.inl hb,fun x c e=>f4 x c (ug S I.ok e),fun p hp=>absurd (show p∈([]:List (Addr×Obj)) from hp) (by simp)⟩
  rcases mem_cons.mp (I.stkSub b z) with q|q
  ·exact f1 q
  ·exact f2 q
 have st1:tn 0 h1:=T.keep _ _ _ st fun b hb o e=>keep3 b o e
 have loop:∀s3:Shared,s3 = { s with heap:=h1,toks:=s.toks+([]:List (Str×Value)).length } →
   codeAny (model X.prog X.w) X.A (.compLoop (.ListComp elt [⟨tg,iter,[],0⟩] scope pos) 0 (.ref it) (.ref acc) (X.comp scope N' s H s.heap.objs.size fp).env) (RR s.heap.objs.size) s3:=by
  rintro s3 rfl
  refine YM (fun n s'=>∃i σ' H',Inv (X.comp scope N' s H s.heap.objs.size fp) [] σ' H' s'∧tn i s'.heap∧(∀b∈fp,H' b=none)∧W i n σ' H') ?_ m0 ⟨0,s0 σ,H,Y0,st1,fun b hb=>(hfp b hb).1,w0⟩
  rintro n s4 ⟨i,σ4,H4,I4,st4,fr4,w4⟩
  rcases turn i n σ4 H4 w4 with ⟨stop,qn⟩|⟨go,step⟩
  ·refine thn (T.done (X.comp scope N' s H s.heap.objs.size fp) rfl rfl rfl hc i [] s4 σ4 H4 _ I4 (fpY fr4) st4 stop) fun r s5 z_=>?_
   obtain⟨hr,I5⟩:=z_
   subst hr
   obtain⟨m5,n5,_⟩:=id I5.loc
   have hC:H4 s.heap.objs.size=none:=I5.free
   refine hRR s5 ⟨m5,n5⟩ fun h' sb=>⟨.ref acc,H4,?_,rfl,qn,hC⟩
   refine I.call' (s':={ s5 with heap:=h' }) (ch:=fp) I5.os ⟨fun b o e n hb hx=>?_,fun b o e n hb hx=>?_,fun b o e n hx=>I5.base.free b o e n hx,fun b o e hx=>?_,I5.base.tups,I5.base.frzs,I5.base.tbls⟩ (Xk I5.hok hC fun b o hb e=>(sb.2 b hb).trans e) I5.bare fun b hb=>?_
   ·exact(sb.2 b (ne_of_lt (Heap.lt_size e))).trans (I5.base.keep b o e n hb hx)
   ·obtain⟨sl,q⟩:=I5.base.slot b o e n hb hx
    exact⟨sl,(sb.2 b (ne_of_lt (Heap.lt_size e))).trans q⟩
   ·obtain⟨o',q⟩:=I5.base.there b o e hx
    exact⟨o',(sb.2 b (ne_of_lt (Heap.lt_size e))).trans q⟩
   ·obtain⟨f0,f1,f2,f3,f4,f5⟩:=hfp b hb
    exact⟨f3,f1,f4,f5⟩
  ·refine thn (T.item (X.comp scope N' s H s.heap.objs.size fp) rfl rfl rfl hc i [] s4 σ4 H4 _ I4 (fpY fr4) st4 go) fun r' s5 z_=>?_
   obtain⟨u,hr,h5⟩:=z_
   subst hr
   refine thn h5 fun _ s6 z_=>?_
   obtain⟨x,H6,I6,r6,y6,st6,fr6⟩:=z_
   have I6':=I6.pinned (fpY fr6) (T.obj _ _ st6)
   refine thn (hg _ _ _ _ _ s6 σ4 H6 x u _ I6' r6 (step x H6 y6)) fun _ s7 z_=>?_
   obtain⟨σ7,H7,I7,F7,τ7,R7,q7⟩:=z_
   have hp:∀b∈fp,∃o,(b,o)∈([]:List (Addr×Obj))++vd fp s6.heap:=fun b hb=>by
    obtain⟨o,e,_⟩:=T.obj _ _ st6 b hb
    exact⟨o,mem_append_right _ (yV hb e)⟩
   refine wpAny_mono (he s H s.heap.objs.size fp ([]++vd fp s6.heap) (notedBy (model X.prog X.w) X.A (X.comp scope N' s H s.heap.objs.size fp).env fun x s'=>RR s.heap.objs.size (.error x) s') hp [] s7 σ7 H7
    (fun y H4=>∃ys,H4 acc=some (.lst ys)∧ys.length<sizeLine∧∃m',m'<n∧W (i+1) m' σ7 (upd H4 acc (.lst (ys++[y])))) (Inv.tryI I7 _) ⟨F7,τ7,R7,?_⟩) (fun y s9 ⟨z,H9,I9,r9,ys,e9,l9,m',hm,w9⟩=>?_) fun _ _ q=>q
   ·cases q:r τ7 with
    |ok d=>rw[q] at q7;exact q7
    |no=>rw[q] at q7;exact q7
    |ex c=>rw[q] at q7;exact fun F' H' x s8 a cls hcn I8 x8=>YL D I hfp I8 x8 hcn (q7 F' H' x) (hRE a)
   ·have I9:=Inv.untry I4.ok I9
    refine thn (v9 _ s9 σ7 H9 (.ref acc) [z] (.ref acc) [y] (fun _ H'=>H'=upd H9 acc (.lst (ys++[z]))) I9 rfl (.cons r9 .nil) ⟨acc,ys,z,rfl,rfl,e9,l9,rfl⟩) fun _ s10 z_=>?_
    obtain⟨_,H10,I10,_,e10⟩:=z_
    subst e10
    refine⟨m',hm,i+1,σ7,_,I10.unpinned,T.keep _ _ _ st6 fun b hb o e=>(I10.pin (b,o) (mem_append_right _ (mem_append_right _ (yV hb e)))).1,fun b hb=>?_,w9⟩
    obtain⟨o,e,d⟩:=T.obj _ _ st6 b hb
    exact(I10.pin (b,o) (mem_append_right _ (mem_append_right _ (yV hb e)))).2.1
 exact codeAny_compStart_list (loop _ rfl) (T.self _ 0 _ _ _ st1 (loop _ rfl))
noncomputable def We(X:Cx)(s0:St→St)(wi:TI)(g:TG)(r:DS→Rs D):TE:=fun σ H Q=>wi σ H fun J H1=>∀acc,H1 acc=none→∃W:Nat→Nat→St→Hp→Prop,(∃m,W 0 m (s0 σ) (upd H1 acc (.lst [])))∧∀i m σ1 H,W i m σ1 H →
 (J.stop i H∧Q (.ref acc) H)∨(J.go i H∧∀x H',J.yld i H x H'→g x σ1 H' fun σ2 H2=>
  tR X.K r (fun c _ H3=>XA X c σ H3) σ2 H2 fun y H4=>∃ys,H4 acc=some (.lst ys)∧ys.length<sizeLine∧∃m',m'<m∧W (i+1) m' σ2 (upd H4 acc (.lst (ys++[y]))))
theorem WC{r:DS→Rs D}(D:Fst X)(S:y0 X scope)(hc:X.calm=true)(hl:∀σ:St,σ.length=X.N.length→(s0 σ).length=N'.length)
  (hσ:∀(σ:St) (i:Nat) (v:V),(s0 σ)[i]?=some (some v)→∃(x:Str) (j:Nat),N'[i]?=some x∧X.N[j]?=some x∧σ[j]?=some (some v)∧scope.names.lookup x=some .free)
  (hi:PI X tg iter wi) (hg:∀s H C fp,PG (X.comp scope N' s H C fp) tg g) (he:∀s H C fp pins E,(∀b∈fp,∃o,(b,o)∈pins)→PDR (wb (X.comp scope N' s H C fp) pins E) elt r)
  (hs:∀x,foldedSetIterable iter X.env x=pure x:=by intro _;rfl):PE X (.ListComp elt [⟨tg,iter,[],0⟩] scope pos) (We X s0 wi g r):=by
 intro pins s σ H Q I h
 rw[eval_ListComp]
 have hclos:=wa (scope:=scope) (env:=X.env) fun y hy hk=>Option.isSome_iff_exists.mpr (I.ok.has y.1 (S.free y hy hk))
 refine wpAny_comprehension_free (use:=none) rfl hs hclos S.kind S.locs (thn (hi pins s σ H _ I h) fun x s1 h1=>thn h1 fun itv s2 h2=>?_)
 obtain⟨it,fp,tn,J,H2,e,I2,T,st2,f2,hw⟩:=h2
 subst e
 have hf:H2 s2.heap.objs.size=none:=I2.hok.fresh (le_refl _)
 obtain⟨W,⟨m0,w0⟩,turn⟩:=hw _ hf
 have hlt:=Vi (pins:=pins) (σ:=σ) (H:=H2) T st2
 refine wpAny_newObj_type ?_
 have I3:Inv X pins σ (upd H2 s2.heap.objs.size (.lst [])) { s2 with heap:=s2.heap.push { cls:=.type "list", dict:=none,data:=.seq ([]:List Value).toArray } }:=
  I2.laid (t':=s2.toks) (o:=.lst []) (fun b u e=>get?_push_of_some _ e) (le_refl _) ⟨zero_le _,[],0,.nil,Heap.get?_push_size _ rfl⟩
 have hsz:s2.heap.objs.size<(s2.heap.push { cls:=.type "list", dict:=none,data:=.seq ([]:List Value).toArray }).objs.size:=by rw[Heap.size_push];exact Nat.lt_succ_self _
 refine Yn (s0:=s0) (QQ:=Q) (W:=W) (m0:=m0) D S hc (hl σ I2.len) (hσ σ) hg he I3 T (T.keep _ _ _ st2 fun b hb o e=>get?_push_of_some _ e) (fun b hb=>?_) (fun b hb=>Nat.lt_trans (hlt b hb) hsz) hsz w0 turn (fun s' ⟨m,hn⟩ hq=>⟨m,hn,fun h' sb=>let ⟨v,H',I',r',q',_⟩:=hq h' sb;⟨v,H',I',r',q'⟩⟩) fun a s' b=>b
 obtain⟨f0,f1,f2,f3⟩:=f2 b hb
 exact⟨by rw[zm (ne_of_lt (hlt b hb))];exact f0,f1,f2,f3⟩
end
noncomputable def xB(set:FG)(r:DS→Rs D)(τ:DS):List D→Rs (List D)
 |[]=>.ok []
 |d::ds=>match set d τ with
  |.ok τ1=>match r τ1 with
   |.ok x=>(xB set r τ ds).bind fun xs=>.ok (x::xs)
   |.ex c=>.ex c
   |.no=>.no
  |_=>.no
noncomputable def YE:D→Option (List D)
 |.lst ds=>some ds
 |_=>none
theorem UG{d:D}{ds:List D}(h:YE d=some ds):d=.lst ds:=by
 unfold YE at h;split at h <;> cases h;rfl
noncomputable def Z1(k:Nat)(idx:List Nat)(ri:DS→Rs D)(set:FG)(r:DS→Rs D):DS→Rs D:=fun τ=>match ri τ with
 |.ok d=>match YE d with
  |some ds=>if ds.length≤sizeLine then (xB set r (xu k idx τ) ds).bind fun xs=>.ok (.lst xs) else .no
  |none=>.no
 |.ex c=>.ex c
 |.no=>.no
section
variable{X:Cx}{scope:Scope}{tn fr:List Str}{idx:List Nat}{tg iter elt:Expr}{pos:Pos}{set:FG}{r ri:DS→Rs D}
structure CWX(K:Frag)(set:FG)(r:DS→Rs D)(t0:DS)(ds:List D)(F1 H1:Hp)(acc:Addr)(i:Nat)(σ1:St)(Hc F2 Hm:Hp)(τ1:DS)(dn:List D)(vs:List V):Prop where
 a1:Ext F1 H1 F2 Hm
 a2:Hm acc=none
 a3:Hc=upd Hm acc (.lst vs)
 a4:Reps K F2 dn vs
 a5:RS K H1 F1 F2 τ1 σ1 Hc
 a6:wG τ1
 a7:∀d,set d τ1=set d t0
 a8:xB set r t0 ds=(xB set r t0 (ds.drop i)).bind fun xs=>.ok (dn++xs)
 a9:dn.length=i
theorem YK(so:uv set){Y:Cx}(hK:Y.K=X.K)(σ:St)(H:Hp)(Q:VK)(h:tR X.K (Z1 tn.length idx ri set r) (XA X) σ H Q):We X (wz tn.length idx) (Jl X.K (tR X.K ri (XA X))) (tG Y set) r σ H Q:=by
 obtain⟨F,τ,R,h⟩:=h
 unfold Z1 at h
 refine⟨F,τ,R,?_⟩
 cases z:ri τ with
 |no=>rw[z] at h;exact h
 |ex c=>rw[z] at h;exact h
 |ok d=>
 rw[z] at h
 intro v F1 H1 x rv
 cases q0:YE d with
 |none=>simp only[q0] at h
 |some ds=>
 simp only[q0] at h
 have e:=UG q0
 subst e
 simp only[Rep] at rv
 obtain⟨a,ws,rfl,ea,rr⟩:=rv
 refine⟨a,rfl,⟨ws,SqL.of (x.fh _ _ ea)⟩,fun acc hacc=>?_⟩
 by_cases hz:ds.length≤sizeLine
 rotate_left
 ·simp only[if_neg hz] at h
 simp only[if_pos hz] at h
 have io:=Zz (K:=X.K) (SqL.of ea) rr
 have R1:=R.ext x
 have hF1:F1 acc=none:=zv x.fh hacc
 have wh:∀{t:Rs (List D)},xB set r (xu tn.length idx τ) ds=t→(match t.bind fun xs=>(.ok (.lst xs):Rs D) with
  |.ok d=>Ev X.K F H Q d
  |.ex c=>∀F' H',Ext F H F' H'→XA X c σ H'
  |.no=>False):=fun {t} e=>by rw[e] at h;exact h
 refine⟨fun i m σ1 Hc=>m=ds.length-i∧i≤ds.length∧∃F2 Hm τ1 dn vs,CWX X.K set r (xu tn.length idx τ) ds F1 H1 acc i σ1 Hc F2 Hm τ1 dn vs,⟨ds.length,by simp,zero_le _,F1,H1,_,[],[],Ext.refl x.fh,hacc,rfl,Reps.nil,?_,yU _ _ _,fun _=>rfl,?_,rfl⟩,?_⟩
 ·exact(Y2 tn.length idx R1).free_upd (yU _ _ _) hacc hF1 (.inl hacc)
 ·rw[List.drop_zero]
  cases xB set r (xu tn.length idx τ) ds <;> rfl
 rintro i m σ1 Hc ⟨rfl,hi,F2,Hm,τ1,dn,vs,x2,hm,rfl,r2,R2,n2,so2,cl,hln⟩
 obtain⟨i1,i2⟩:=io i F2 _ x2.ff R2.rv.fh
 by_cases hlt:i<ds.length
 ·have hd:ds.drop i=ds[i]::ds.drop (i+1):=List.drop_eq_getElem_cons hlt
  rw[hd,xB] at cl
  obtain⟨go,yl⟩:=i2 ds[i] (by simp[hlt])
  refine .inr ⟨go,fun y H' yy=>?_⟩
  obtain⟨F3,x3,r3⟩:=yl y H' yy
  refine⟨F3,τ1,ds[i],by rw[hK];exact(R2.ext x3).rv,by rw[hK];exact r3,?_⟩
  rw[so2]
  cases e1:set ds[i] (xu tn.length idx τ) with
  |no=>rw[e1] at cl;exact(wh cl).elim
  |ex c=>rw[e1] at cl;exact(wh cl).elim
  |ok τ2=>
   rw[e1] at cl
   simp only at cl
   intro σ2 _ RR _
   rw[hK] at RR
   have RR:=RR _ _ (R2.ext x3)
   have n3:=so.no _ _ _ e1 (yU _ _ _)
   have so3:∀d,set d τ2=set d (xu tn.length idx τ):=fun d=>so.ov d _ _ _ e1
   refine⟨F3,τ2,RR.rv,?_⟩
   cases e3:r τ2 with
   |no=>rw[e3] at cl;exact(wh cl).elim
   |ex c=>
    rw[e3] at cl
    exact fun F' H' x5=>wh cl F' H' (((x.trans x2).trans (Ext.open (o:=.lst vs) x2.fh hm)).trans (x3.trans x5))
   |ok z=>
    rw[e3] at cl
    simp only at cl
    intro v F5 H5 x5 r5
    have x35:=x3.trans x5
    obtain⟨y1,y2⟩:=jp x2 hm x35
    refine⟨vs,x35.hh acc _ zr,?_,ds.length-(i+1),by lia,rfl,hlt,F5,xA H5 acc,τ2,dn++[z],vs++[v],y1,wI _ _,by rw[uN],(r2.mono x35.ff).append (Reps.cons r5 Reps.nil),?_,n3,so3,?_,by simp[hln]⟩
    ·rw[← r2.length,hln];lia
    ·exact(RR.ext x5).free_upd n3 hacc y2 (.inr ⟨_,x35.hh acc _ zr⟩)
    ·rw[cl]
     cases xB set r (xu tn.length idx τ) (ds.drop (i+1)) with
     |ok rs=>simp
     |ex c=>rfl
     |no=>rfl
 ·have e:i=ds.length:=by lia
  subst e
  rw[List.drop_length,xB] at cl
  simp only[Rs.bind_ok,append_nil] at cl
  have k:=wh cl
  refine .inl ⟨i1 (le_refl _),k _ _ _ ((x.trans x2).trans (Ext.new (o:=.lst vs) x2.fh hm)) ?_⟩
  simp only[Rep]
  exact⟨acc,vs,rfl,zr,r2.mono (zI (zv x2.fh hm))⟩
theorem WH(D:Fst X)(hb:wV X.env.scope scope=true)(hc:X.calm=true)(hfr:FreeOk scope X.N fr idx)(so:uv set)(hi:PDR X iter ri)
  (hg:∀s H C fp,PDG (X.comp scope (tn++fr) s H C fp) tg set) (he:∀s H C fp pins E,(∀b∈fp,∃o,(b,o)∈pins)→PDR (wb (X.comp scope (tn++fr) s H C fp) pins E) elt r)
  (hs:∀x,foldedSetIterable iter X.env x=pure x:=by intro _;rfl):PDR X (.ListComp elt [⟨tg,iter,[],0⟩] scope pos) (Z1 tn.length idx ri set r):=
 PE.imp (WC (s0:=wz tn.length idx) (g:=tG (X.comp scope (tn++fr) X.s₀ X.H₀ 0 []) set) D
  (xI hb) hc (fun σ _=>by simp[wz,hfr.len]) (uC hfr) (Ua hi) hg he hs) (YK so rfl)
end
section
variable{τ:DS}{fa fb fc fe fi:FE}{fs:FA}{op:D→D→Rs D}{d x y:D}{i j k:Int}{n m:Nat}
noncomputable def getV:Option (Option Sl)→Rs D
 | some (some (.val d))=>.ok d
 |_=>.no
noncomputable def Ye:Option (Option Sl)→Rs (List D)
 | some (some (.own d))=>.ok d
 |_=>.no
@[simp] theorem xr:getV (some (some (.val d)))=.ok d:=rfl
@[simp] theorem wJ{ds:List D}:Ye (some (some (.own ds)))=.ok ds:=rfl
theorem xG:zd n τ=getV τ[n]?:=rfl
theorem u9:wZ τ n=Ye τ[n]?:=rfl
theorem wk:eC d τ=.ok d:=rfl
theorem wL:eOp op fa fb τ=(fa τ).bind fun x=>(fb τ).bind fun y=>op x y:=rfl
theorem yd:zh τ=.ok []:=rfl
theorem zC:za fa fs τ=(fa τ).bind fun x=>(fs τ).bind fun r=>.ok (x::r):=rfl
theorem vP:y9 fs τ=(fs τ).bind fun ds=>if ds.length≤sizeLine then .ok (.lst ds) else .no:=rfl
theorem UY:Yi fs τ=(fs τ).bind fun ds=>if ds.length≤sizeLine then .ok (.tup ds) else .no:=rfl
theorem xP{g:List D→Rs D}:zD g fs τ=(fs τ).bind fun ds=>Uv (g ds):=rfl
theorem ZI{g:List D→Rs D}:yn g fs τ=(fs τ).bind g:=rfl
theorem Ql{g:FT}:eIf g fa fb τ=(g τ).bind fun b=>if b=true then fa τ else fb τ:=rfl
theorem Vk:eOr fa fb τ=(fa τ).bind fun x=>(ZP x).bind fun b=>if b=true then .ok x else fb τ:=rfl
noncomputable def boolOf:D→Rs Bool
 |.bl b=>.ok b
 |_=>.no
@[simp] theorem uh{b:Bool}:boolOf (.bl b)=.ok b:=rfl
theorem Wh:FD.tB fe τ=(fe τ).bind boolOf:=rfl
theorem VI:uP fe τ=(fe τ).bind ZP:=rfl
theorem Zf{f g:FT}:xS f g τ=(f τ).bind fun b=>if b=true then g τ else .ok false:=rfl
theorem Wd{f g:FT}:wc f g τ=(f τ).bind fun b=>if b=true then .ok true else g τ:=rfl
theorem VJ{f:FT}:wx f τ=(f τ).bind fun b=>.ok (!b):=rfl
theorem Qk{T:String}{g:D→List D→Rs D}:eMt T g fa fs τ=(fa τ).bind fun d=>if ZA T d=true then (fs τ).bind fun ds=>g d ds else .no:=rfl
theorem ZH{fl fh:FO}:eSl fe fl fh τ=(fe τ).bind fun d=>(fl τ).bind fun l=>(fh τ).bind fun u=>slD d l u:=rfl
theorem Z9:zL τ=.ok none:=rfl
noncomputable def Fl.thn(r:Fl)(g:FS):Fl:=match r with
 |.nx τ=>g τ
 |r=>r
@[simp] theorem zQ{g:FS}:(Fl.nx τ).thn g=g τ:=rfl
@[simp] theorem Jt{g:FS}:(Fl.rt d).thn g=.rt d:=rfl
theorem zA{f g:FS}:zM f g τ=(f τ).thn g:=rfl
theorem xF:y7 n fe τ=Fl.of (fe τ) fun d=>.nx (τ.set n (some (.val d))):=rfl
theorem Wm:ul n fs τ=Fl.of (fs τ) fun ds=>.nx (τ.set n (some (.own ds))):=rfl
theorem yT{g:FT}{f h:FS}:sIf g f h τ=Fl.of (g τ) fun b=>if b=true then f τ else h τ:=rfl
theorem yH:yB fe τ=Fl.of (fe τ) fun d=>.rt d:=rfl
theorem uW:Wn n τ=Fl.of (wZ τ n) fun ds=>.rt (.lst ds):=rfl
theorem yq:yg τ=.nx τ:=rfl
theorem VV{set:FG}{body:FS}:Zj fs set body τ=Fl.of (fs τ) fun ds=>xq set body ds τ:=rfl
@[simp] theorem xO:vL (.rt d)=.ok d:=rfl
@[simp] theorem uF:Uv (.ok d)=.ok d:=rfl
@[simp] theorem xD:zG (.int i) (.int j)=.ok (.int (i+j)):=rfl
theorem VC{a b:Str}(h:a.length+b.length≤sizeLine):zG (.str a) (.str b)=.ok (.str (a++b)):=if_pos h
theorem vi(h:(-(18446744073709551616)<i∧i<18446744073709551616)∨(-(18446744073709551616)<j∧j<18446744073709551616)):jI (.int i) (.int j)=.ok (.int (i*j)):=if_pos h
theorem ua(h:0<j):uz (.int i) (.int j)=.ok (.int (i%j)):=by
 show(if decide (0<j)=true then _ else _)=_
 rw[if_pos (by simpa using h)]
theorem uJ(h:0<j∧j<1073741824):jo (.int i) (.int j)=.ok (.int (i / j)):=by
 show(if decide (0<j∧j<1073741824)=true then _ else _)=_
 rw[if_pos (by simpa using h)]
@[simp] theorem Jg:ltI (.int i) (.int j)=.ok (.bl (decide (i<j))):=rfl
@[simp] theorem Jh:leD (.int i) (.int j)=.ok (.bl (decide (i≤j))):=rfl
@[simp] theorem Yd:gtD (.int i) (.int j)=.ok (.bl (decide (j<i))):=rfl
@[simp] theorem eqD_i:eqD (.int i) (.int j)=.ok (.bl (i==j)):=rfl
@[simp] theorem eqD_s{a b:Str}:eqD (.str a) (.str b)=.ok (.bl (a==b)):=rfl
@[simp] theorem neD_i:neD (.int i) (.int j)=.ok (.bl (!(i==j))):=rfl
@[simp] theorem neD_s{a b:Str}:neD (.str a) (.str b)=.ok (.bl (!(a==b))):=rfl
@[simp] theorem Jk{a b:Str}:inD (.str a) (.str b)=.ok (.bl (ZS a b)):=rfl
theorem jN(c:Nat)(x:Str):ZS ⟨#[c]⟩ x=decide (c∈x.cps.toList):=StrLaws.found_one x c
@[simp] theorem W4{ns:List Int}:y8 [.scr ns]=.ok (.int ns.length):=rfl
theorem W3{a:Str}(h:a.length≤sizeLine):y8 [.str a]=.ok (.int a.length):=if_pos h
theorem UQ{ns:List Int}{a:Int}(h:atI ns k=some a):ixD (.scr ns) (.int k)=.ok (.int a):=by
 show(match atI ns k with|some d=>Rs.ok (D.int d) | none=>.no)=_
 rw[h]
theorem Xj{ds:List D}{a:D}(h:atI ds k=some a):ixD (.lst ds) (.int k)=.ok a:=by
 show(match atI ds k with|some d=>Rs.ok d|none=>.no)=_
 rw[h]
theorem Xi{a:Str}{c:Nat}(h:atI a.cps.toList k=some c)(hz:a.length≤sizeLine):ixD (.str a) (.int k)=.ok (zy c):=by
 show(match atI a.cps.toList k with|some c=>if a.length≤sizeLine then Rs.ok (D.str ⟨#[c]⟩) else .no|none=>.no)=_
 rw[h]
 exact if_pos hz
theorem jz{α:Type}{xs:List α}{a:α}(h0:0≤k)(h:xs[k.toNat]?=some a):atI xs k=some a:=by
 have:=U5 (j:=k.toNat) h
 rwa [Int.toNat_of_nonneg h0] at this
@[simp] theorem VH{b:Bool}:ZP (.bl b)=.ok b:=rfl
theorem yh{b:FS}{ds:List D}:xQ n b ds=vL (b (zR n ds)):=rfl
end
theorem eqvAll_nil(l:List PyData):PyData.eqvAll l []=l.isEmpty:=by cases l <;> simp[PyData.eqvAll]
theorem Ur(ns:List Int):okD (.scr ns)=true:=by
 have c:∀l:List Int,PyData.canLayAll0 (l.map PyData.int)=true:=fun l=>by
  induction l with
  |nil=>rfl
  |cons a r ih=>simp[PyData.canLayAll0,PyData.canLay0,ih]
 have d:∀l:List Int,PyData.depthAll (l.map PyData.int)=0:=fun l=>by
  induction l with
  |nil=>rfl
  |cons a r ih=>simp[PyData.depthAll,PyData.depth,ih]
 simp[okD,xc,xj,PyData.canLay0,PyData.depth,c,d]
theorem Yg(ns:List Int):eqD (.scr ns) (.lst [])=.ok (.bl ns.isEmpty):=by
 have o2:okD (.lst [])=true:=by decide
 have:xR (.scr ns) (.lst [])=ns.isEmpty:=by
  simp only[xR,xj,toPys,PyData.eqv,eqvAll_nil]
  cases ns <;> rfl
 simp only[eqD,Ur,o2,this,and_self,if_true]
set_option maxHeartbeats 1000000
noncomputable def tx(l:List Nat):D:=.str ⟨l.toArray⟩
theorem vV{x y:Str}(h:x.cps.toList=y.cps.toList):x=y:=by
 cases x with|mk a=>cases y with|mk b=>
 have:a=b:=Array.toList_inj.mp h
 rw[this]
theorem JY(x:Str):(⟨x.cps.toList.toArray⟩:Str)=x:=vV (by simp)
noncomputable def zp(c:Nat):List (List Nat)→List Nat
 |[]=>[]
 |[x]=>x
 |x::r=>x++c::zp c r
theorem yW(c:Nat)(x:List Nat)(r:List (List Nat))(h:r≠[]):zp c (x::r)=x++c::zp c r:=by
 cases r with
 |nil=>exact absurd rfl h
 |cons y s=>rfl
theorem Xu(x y:Str):(x++y).cps.toList=x.cps.toList++y.cps.toList:=by
 show(x.cps++y.cps).toList=_
 rw[Array.toList_append]
theorem Zy(c:Nat):∀(ps:List Str),(Str.join ⟨#[c]⟩ ps).cps.toList=zp c (ps.map fun p=>p.cps.toList)
 |[]=>by rw[Str.join.eq_def];rfl
 |[x]=>by rw[Str.join.eq_def];rfl
 |x::y::r=>by
  have ih:=Zy c (y::r)
  rw[Str.join.eq_def]
  show(x++(⟨#[c]⟩:Str)++Str.join ⟨#[c]⟩ (y::r)).cps.toList=_
  rw[Xu,Xu,ih]
  show x.cps.toList++[c]++_=x.cps.toList++c::_
  rw[append_assoc];rfl
theorem jr(c:Nat):∀{a b u v:List Nat},c∉a→c∉b→a++c::u=b++c::v→a=b∧u=v
 |[],[],u,v,_,_,h=>by simpa using h
 |[],y::b,u,v,_,h2,h=>by
  simp only[nil_append,cons_append,List.cons.injEq] at h
  exact absurd h.1 (fun z=>h2 (by rw[z];exact mem_cons_self ..))
 |x::a,[],u,v,h1,_,h=>by
  simp only[nil_append,cons_append,List.cons.injEq] at h
  exact absurd h.1.symm (fun z=>h1 (by rw[z];exact mem_cons_self ..))
 |x::a,y::b,u,v,h1,h2,h=>by
  simp only[cons_append,List.cons.injEq] at h
  obtain⟨e1,e2⟩:=jr c (fun z=>h1 (mem_cons_of_mem _ z)) (fun z=>h2 (mem_cons_of_mem _ z)) h.2
  exact⟨by rw[h.1,e1],e2⟩
theorem j0(c:Nat):∀{ls ms:List (List Nat)},ls≠[]→ms≠[]→(∀l∈ls,c∉l)→(∀l∈ms,c∉l)→zp c ls=zp c ms→ls=ms
 |[],_,h,_,_,_,_=>absurd rfl h
 |_,[],_,h,_,_,_=>absurd rfl h
 |[x],[y],_,_,_,_,h=>by rw[show x=y from h]
 |[x],y::z::r,_,_,h1,_,h=>by
  have h:x=y++c::zp c (z::r):=h
  exact absurd (by rw[h];simp) (h1 x (by simp))
 |x::w::s,[y],_,_,_,h2,h=>by
  have h:x++c::zp c (w::s)=y:=h
  exact absurd (by rw[← h];simp) (h2 y (by simp))
 |x::w::s,y::z::r,_,_,h1,h2,h=>by
  have h:x++c::zp c (w::s)=y++c::zp c (z::r):=h
  obtain⟨e1,e2⟩:=jr c (h1 x (by simp)) (h2 y (by simp)) h
  rw[e1,j0 c (by simp) (by simp) (fun l hl=>h1 l (mem_cons_of_mem _ hl)) (fun l hl=>h2 l (mem_cons_of_mem _ hl)) e2]
theorem vW(c:Nat)(ls:List (List Nat))(hn:ls≠[])(hf:∀l∈ls,c∉l):Txt.split ⟨(zp c ls).toArray⟩ ⟨#[c]⟩=ls.map fun l=>(⟨l.toArray⟩:Str):=by
 have h1:=StrLaws.join_split ⟨(zp c ls).toArray⟩ ⟨#[c]⟩
 have h2:=StrLaws.split_free ⟨(zp c ls).toArray⟩ c
 have h3:=split_pos ⟨(zp c ls).toArray⟩ ⟨#[c]⟩
 generalize Txt.split ⟨(zp c ls).toArray⟩ ⟨#[c]⟩=ps at h1 h2 h3
 have e:=congrArg (fun s:Str=>s.cps.toList) h1
 simp only[Zy] at e
 have:(ps.map fun p=>p.cps.toList)=ls:=by
  refine j0 c ?_ hn ?_ hf e
  ·intro z
   rw[List.map_eq_nil_iff] at z
   subst z;simp at h3
  ·intro l hl
   obtain⟨p,hp,rfl⟩:=mem_map.mp hl
   exact h2 p hp
 rw[← this,map_map]
 conv=>lhs;rw[← map_id ps]
 apply List.map_congr_left
 intro p _
 exact(JY p).symm
theorem WO(c:Nat)(a b:List Nat)(ha:c∉a):Txt.partition ⟨(a++c::b).toArray⟩ ⟨#[c]⟩=(⟨a.toArray⟩,⟨#[c]⟩,⟨b.toArray⟩):=by
 have hh:=StrLaws.occ_head ⟨(a++c::b).toArray⟩ ⟨#[c]⟩ 1 (le_refl _)
 have at_iff:∀i,StrLaws.At ⟨(a++c::b).toArray⟩ ⟨#[c]⟩ (Str.length ⟨(a++c::b).toArray⟩) i↔(a++c::b)[i]?=some c:=fun i=>by
  have:=StrLaws.subAt_one ⟨(a++c::b).toArray⟩ c i
  unfold StrLaws.At
  rw[this]
 have hat:(a++c::b)[a.length]?=some c:=by simp
 rcases hh with ⟨_,h⟩|⟨i,r,h1,h2,h3⟩
 ·exact absurd ((at_iff a.length).mpr hat) (h a.length)
 ·have hi:i=a.length:=by
   rcases Nat.lt_trichotomy i a.length with z|z|z
   ·exfalso
    have:=(at_iff i).mp h2
    rw[getElem?_append_left z] at this
    exact ha (List.mem_of_getElem? this)
   ·exact z
   ·exact absurd ((at_iff a.length).mpr hat) (h3 a.length z)
  subst hi
  unfold Txt.partition
  rw[h1]
  simp only
  refine Prod.ext ?_ (Prod.ext rfl ?_)
  ·apply vV
   show(Builtin.Str.strSub _ 0 a.length).cps.toList=_
   rw[StrLaws.strSub_toList]
   simp
  ·apply vV
   show(Builtin.Str.strSub _ (a.length+1) _).cps.toList=_
   rw[StrLaws.strSub_toList]
   have e1:Str.length ⟨(a++c::b).toArray⟩=a.length+(b.length+1):=by
    show(a++c::b).toArray.size=_
    simp
   rw[e1]
   show List.take _ (List.drop _ (a++c::b))=b
   have e2:List.drop (a.length+1) (a++c::b)=b:=by
    rw[← List.drop_drop];simp
   rw[e2]
   apply List.take_of_length_le
   lia
theorem Vj(c:Nat)(a:List Nat):Txt.endswith ⟨(a++[c]).toArray⟩ ⟨#[c]⟩=true:=by
 have:=(StrLaws.subAt_one ⟨(a++[c]).toArray⟩ c a.length).mpr (by simp)
 have e1:Str.length ⟨(a++[c]).toArray⟩=a.length+1:=by
  show(a++[c]).toArray.size=_
  simp
 unfold Txt.endswith
 rw[e1] at this ⊢
 have e2:Str.length ⟨#[c]⟩=1:=rfl
 rw[e2] at this ⊢
 simp only[Nat.add_sub_cancel,this.2,Bool.and_true]
 simp
end FD
set_option Elab.async false
set_option linter.all false
set_option maxRecDepth 100000
namespace Law
open PySem PySem.Spec PyProof.Rows L2 FD
instance tabs:FD.Tabs:=⟨[],fun c f=>false⟩
noncomputable def uu:FS:=(zM (sIf (tB (eOp eqD (zd 0) (y9 zh))) (yB (eOp jI (eC (.int 7)) (zd 1))) yg)
  (yB (eOp zG (eOp ixD (zd 0) (eOp uz (zd 1) (yn y8 (za (zd 0) zh)))) (eOp jI (eC (.int 6553)) (eOp jo (zd 1) (yn y8 (za (zd 0) zh)))))))
noncomputable def yY(ds:List D):Rs D:=xQ 2 uu ds
noncomputable def vT:FS:=(zM (y7 3 (eOp uz (eOp zG (eOp jI (eOp uz (zD yY (za (zd 0) (za (zd 1) zh))) (eC (.int 2147483563))) (eC (.int 69069))) (eOp jI (eC (.int 104723)) (eOp zG (zd 1) (eC (.int 1))))) (eC (.int 2147483563))))
  (zM (y7 3 (eOp uz (eOp zG (eOp jI (zd 3) (zd 3)) (eOp jo (zd 3) (eC (.int 3)))) (eC (.int 2147483399))))
  (yB (eOp uz (eOp jo (eOp uz (eOp zG (eOp jI (zd 3) (zd 3)) (eOp jo (zd 3) (eC (.int 7)))) (eC (.int 2147483647))) (eC (.int 11))) (zd 2)))))
noncomputable def zl(ds:List D):Rs D:=xQ 4 vT ds
noncomputable def ut:FS:=(zM (y7 2 (eC (.str "")))
  (zM (Zj (YJ (za (eOp zG (eC (.int 1)) (zD zl (za (zd 0) (za (zd 1) (za (eC (.int 10)) zh))))) zh)) (gNm 3) (y7 2 (eOp zG (zd 2) (eOp ixD (eC (.str "abcabABCab1_-./xyz")) (zD zl (za (zd 0) (za (eOp zG (eOp zG (zd 1) (eC (.int 1))) (zd 3)) (za (eC (.int 18)) zh))))))))
  (yB (zd 2))))
noncomputable def yi(ds:List D):Rs D:=xQ 4 ut ds
noncomputable def vS:FS:=(zM (ul 3 (yQ 1 [0,1] (YJ (za (zD zl (za (zd 0) (za (zd 1) (za (eOp zG (zd 2) (eC (.int 1))) zh)))) zh)) (gNm 0) (fun _=>.ok true) (zD yi (za (zd 1) (za (eOp zG (eOp zG (zd 2) (eC (.int 1))) (eOp jI (eC (.int 12)) (zd 0))) zh)))))
  (zM (sIf (xS (tB (eOp gtD (Vm 3) (eC (.int 1)))) (tB (eOp eqD (zD zl (za (zd 0) (za (eOp zG (zd 1) (eC (.int 12))) (za (eC (.int 5)) zh)))) (eC (.int 0))))) (VU 3 (eC (.int 0)) (U0 3 (vO (eC (.int 1))))) yg)
  (Wn 3)))
noncomputable def yA(ds:List D):Rs D:=xQ 4 vS ds
noncomputable def Za:FS:=(yB (eMt "str" wH (eC (.str "")) (za (fun τ=>((yQ 2 [] (xz (zd 0)) (gPr 0 1) (fun _=>.ok true) (Xq (w5 (eFv (zd 1)) (w5 (eC (.str " ")) (w5 (eFv (zd 0)) (w5 (eC (.str "\n")) UP)))))) τ).bind fun ds=>.ok (.lst ds)) zh)))
noncomputable def yF(ds:List D):Rs D:=xQ 1 Za ds
noncomputable def wy:FS:=(yB (eOr (eOp inD (zd 0) (eC (.str "abcdefghijklmnopqrstuvwxyz"))) (eOr (eOp inD (zd 0) (eC (.str "ABCDEFGHIJKLMNOPQRSTUVWXYZ"))) (eOp inD (zd 0) (eC (.str "0123456789"))))))
noncomputable def yf(ds:List D):Rs D:=xQ 1 wy ds
noncomputable def wP:FS:=(yB (eOr (zD yf (za (zd 0) zh)) (eOp inD (zd 0) (eC (.str "_-./")))))
noncomputable def zY(ds:List D):Rs D:=xQ 1 wP ds
noncomputable def Zb:FS:=(zM (sIf (wx (uP (yn Va (za (zd 0) (za (eC (.raw (.ty "str"))) zh))))) (yB (eC (.bl false))) yg)
  (zM (sIf (wc (tB (eOp ltI (yn y8 (za (zd 0) zh)) (eC (.int 1)))) (tB (eOp gtD (yn y8 (za (zd 0) zh)) (eC (.int 24))))) (yB (eC (.bl false))) yg)
  (yB (yn YN (za (fun τ=>((yQ 1 [] (xz (zd 0)) (gNm 0) (fun _=>.ok true) (zD zY (za (zd 0) zh))) τ).bind fun ds=>.ok (.lst ds)) zh)))))
noncomputable def xn(ds:List D):Rs D:=xQ 1 Zb ds
noncomputable def va:FS:=(zM (sIf (wc (tB (eOp ltI (yn y8 (za (zd 0) zh)) (eC (.int 1)))) (tB (eOp gtD (yn y8 (za (zd 0) zh)) (eC (.int 6))))) (vZ "NoText") yg)
  (zM (sIf (wx (uP (yn YN (za (fun τ=>((yQ 1 [] (xz (zd 0)) (gNm 0) (fun _=>.ok true) (eOp inD (zd 0) (eC (.str "0123456789")))) τ).bind fun ds=>.ok (.lst ds)) zh)))) (vZ "NoText") yg)
  (zM (sIf (xS (tB (eOp eqD (eOp ixD (zd 0) (eC (.int 0))) (eC (.str "0")))) (tB (eOp gtD (yn y8 (za (zd 0) zh)) (eC (.int 1))))) (vZ "NoText") yg)
  (yx (yB (yn uo (za (zd 0) zh)))))))
noncomputable def yG(ds:List D):Rs D:=xQ 1 va ds
noncomputable def jx:FS:=(zM (yx (y7 1 (eMt "str" u5 (zd 0) (za (eC (.str " ")) zh))))
  (zM (sIf (wx (uP (zD xn (za (eOp ixD (zd 1) (eC (.int 2))) zh)))) (vZ "NoText") yg)
  (ZV (Y4 (eOp ixD (zd 1) (eC (.int 2))) (wB yG (za (eOp ixD (zd 1) (eC (.int 0))) zh))))))
noncomputable def z6(ds:List D):Rs D:=xQ 2 jx ds
noncomputable def vt:FS:=(zM (yx (sIf (tB (eOp eqD (zd 0) (eC (.str "")))) (yB (y9 zh)) yg))
  (zM (sIf (wx (uP (eMt "str" Xp (zd 0) (za (eC (.str "\n")) zh)))) (vZ "NoText") yg)
  (yx (yB (eMt "str" yO (eSl (zd 0) zL (zX (vO (eC (.int 1))))) (za (eC (.str "\n")) zh))))))
noncomputable def zT(ds:List D):Rs D:=xQ 1 vt ds
noncomputable def Vw:FS:=(ZV (Z1 1 [] (wB zT (za (zd 0) zh)) (gNm 0) (wB z6 (za (zd 0) zh))))
noncomputable def yz(ds:List D):Rs D:=xQ 1 Vw ds
noncomputable def wQ:FS:=(zM (uV (YZ yz (za (zd 0) zh)) (fun c=>c == "NoText") 1 (zM (y7 2 (y9 (za (XZ [("NoText", true)] (zd 1)) (za (XZ [("NoText", false)] (zd 1)) (za (XZ [("NoText", false)] (zd 1)) zh)))))
  (sIf (xS (uP (XZ [("NoText", true)] (zd 1))) (tB (eOp eqD (zd 2) (y9 (za (eC (.bl true)) (za (eC (.bl false)) (za (eC (.bl false)) zh))))))) (yB (eC .non)) yg)))
  (yB (eC (.bl false))))
noncomputable def zJ(ds:List D):Rs D:=xQ 3 wQ ds
noncomputable def ur:FS:=(zM (y7 1 (eC (.str "abcdefghijklmnopqrstuvwxyzABCDEFGHIJKLMNOPQRSTUVWXYZ0123456789_-./")))
  (zM (ul 2 (fun τ=>(zh τ).bind fun ds=>if ds.length≤sizeLine then .ok ds else .no))
  (zM (y7 3 (eMt "str" yO (zd 0) (za (eC (.str "\n")) zh)))
  (zM (Zj (xz (eSl (zd 3) zL (zX (vO (eC (.int 1)))))) (gNm 4) (zM (y7 5 (eMt "str" yO (zd 4) (za (eC (.str " ")) zh)))
  (zM (sIf (wc (tB (eOp neD (yn y8 (za (zd 5) zh)) (eC (.int 2)))) (wc (tB (eOp eqD (eOp ixD (zd 5) (eC (.int 0))) (eC (.str "")))) (wc (xS (tB (eOp neD (eOp ixD (zd 5) (eC (.int 0))) (eC (.str "0")))) (tB (eOp eqD (eOp ixD (eOp ixD (zd 5) (eC (.int 0))) (eC (.int 0))) (eC (.str "0"))))) (tB (eOp gtD (yn y8 (za (eOp ixD (zd 5) (eC (.int 0))) zh)) (eC (.int 6))))))) (yB (eC .non)) yg)
  (zM (sIf (wc (tB (eOp neD (fun τ=>((yQ 1 [] (xz (eOp ixD (zd 5) (eC (.int 0)))) (gNm 0) (tB (eOp x9 (zd 0) (eC (.str "0123456789")))) (zd 0)) τ).bind fun ds=>.ok (.lst ds)) (y9 zh))) (wx (tB (uf leD leD (eC (.int 1)) (yn y8 (za (eOp ixD (zd 5) (eC (.int 1))) zh)) (eC (.int 24)))))) (yB (eC .non)) yg)
  (zM (sIf (tB (eOp neD (fun τ=>((yQ 1 [1] (xz (eOp ixD (zd 5) (eC (.int 1)))) (gNm 0) (tB (eOp x9 (zd 0) (zd 1))) (zd 0)) τ).bind fun ds=>.ok (.lst ds)) (y9 zh))) (yB (eC .non)) yg)
  (VX 2 (Yi (za (eOp ixD (zd 5) (eC (.int 1))) (za (yn uo (za (eOp ixD (zd 5) (eC (.int 0))) zh)) zh)))))))))
  (fun τ=>yB (eIf (tB (eOp eqD (eOp ixD (zd 3) (vO (eC (.int 1)))) (eC (.str "")))) (zd 2) (eC .non)) (ud τ))))))
noncomputable def z9(ds:List D):Rs D:=xQ 6 ur ds
noncomputable def Jo:FS:=(zM (y7 1 (zD yA (za (zd 0) (za (eC (.int 0)) (za (eC (.int 5)) zh)))))
  (zM (y7 2 fun τ=>((yQ 2 [0] (iEn (za (zd 1) zh)) (gPr 0 1) (fun _=>.ok true) (Yi (za (zd 1) (za (eOp ixD (y9 (za (eC (.int 0)) (za (eC (.int 7)) (za (eC (.int 10)) (za (eC (.int 999999)) zh))))) (zD zl (za (zd 2) (za (eOp zG (eC (.int 80)) (zd 0)) (za (eC (.int 4)) zh))))) zh)))) τ).bind fun ds=>.ok (.lst ds))
  (zM (y7 3 (zD yF (za (zd 2) zh)))
  (zM (sIf (tB (eOp neD (zd 3) (eMt "str" wH (eC (.str "")) (za (fun τ=>((yQ 2 [] (xz (zd 2)) (gPr 0 1) (fun _=>.ok true) (eOp zG (eOp zG (eOp zG (yn ZT (za (zd 1) zh)) (eC (.str " "))) (zd 0)) (eC (.str "\n")))) τ).bind fun ds=>.ok (.lst ds)) zh)))) (yB (eC (.bl false))) yg)
  (zM (sIf (tB (eOp neD (zD yz (za (zd 3) zh)) (zd 2))) (yB (eC (.bl false))) yg)
  (zM (y7 4 (zD zl (za (zd 0) (za (eC (.int 90)) (za (eOp zG (yn y8 (za (zd 3) zh)) (eC (.int 1))) zh)))))
  (zM (y7 5 (eOp ixD (eC (.str "0a \n-~1B")) (zD zl (za (zd 0) (za (eC (.int 91)) (za (eC (.int 8)) zh))))))
  (zM (y7 6 (eMt "str" yO (zd 3) (za (eC (.str "\n")) zh)))
  (zM (y7 7 (zD zl (za (zd 0) (za (eC (.int 92)) (za (yn y8 (za (zd 6) zh)) zh)))))
  (zM (y7 8 (y9 (za (eOp zG (eOp zG (eSl (zd 3) zL (zX (zd 4))) (zd 5)) (eSl (zd 3) (zX (zd 4)) zL)) (za (eOp zG (eSl (zd 3) zL (zX (zd 4))) (eSl (zd 3) (zX (eOp zG (zd 4) (eC (.int 1)))) zL)) (za (eOp zG (eOp zG (eSl (zd 3) zL (zX (zd 4))) (zd 5)) (eSl (zd 3) (zX (eOp zG (zd 4) (eC (.int 1)))) zL)) zh)))))
  (zM (y7 8 (eOp zG (zd 8) (y9 (za (eMt "str" wH (eC (.str "\n")) (za (eOp zG (eSl (zd 6) zL (zX (zd 7))) (eSl (zd 6) (zX (eOp zG (zd 7) (eC (.int 1)))) zL)) zh)) (za (eMt "str" wH (eC (.str "\n")) (za (eOp zG (eSl (zd 6) zL (zX (eOp zG (zd 7) (eC (.int 1))))) (eSl (zd 6) (zX (zd 7)) zL)) zh)) zh)))))
  (zM (Zj (xz (eOp zG (zd 8) (y9 (za (eOp ixD (y9 (za (eC (.str "")) (za (eC (.str "\n")) (za (eC (.str "01 a\n")) (za (eC (.str "1 \n")) (za (eC (.str "1 a")) (za (eC (.str "1234567 a\n")) zh))))))) (eOp uz (zd 4) (eC (.int 6)))) zh)))) (gNm 9) (zM (y7 10 (zD zJ (za (zd 9) zh)))
  (sIf (wc (tB (eOp neD (zd 10) (zD z9 (za (zd 9) zh)))) (xS (tB (eOp ZB (zd 10) (eC .non))) (tB (eOp neD (zD yF (za (zd 10) zh)) (zd 9))))) (yB (eC (.bl false))) yg)))
  (yB (eC (.bl true)))))))))))))))
noncomputable def Xe(ds:List D):Rs D:=xQ 11 Jo ds
noncomputable def uq(ns:List Int)(k:Int):Int:=if ns=[] then 7*k else ns.getD (k%ns.length).toNat 0+6553*(k / ns.length)
theorem Yu:sizeLine=16777216:=sizeLine_eq
theorem U1(ns:List Int)(k:Int)(h63:ns.length≤63)(h0:0≤k):yY [.scr ns,.int k]=.ok (.int (uq ns k)):=by
 have st:zR 2 [D.scr ns,.int k]=[some (.val (.scr ns)),some (.val (.int k))]:=rfl
 unfold yY uu
 rw[yh,st]
 simp only[zA,yT,Wh,wL,xG,vP,yd,getElem?_cons_zero,xr,Rs.bind_ok,length_nil,zero_le,if_true,Yg,uh,Fl.of_ok]
 cases ns with
 |nil=>
  simp only[List.isEmpty_nil,if_true,yH,wL,wk,xG,getElem?_cons_zero,getElem?_cons_succ,xr,Rs.bind_ok,vi (i:=7) (j:=k) (.inl ⟨by decide,by decide⟩),Fl.of_ok,Jt,xO,uq]
 |cons a r=>
  have hl:(0:Int)<((a::r).length:Int):=by simp only[length_cons];lia
  have hm0:=emod_nonneg k (show((a::r).length:Int)≠0 by lia)
  have hm1:=Int.emod_lt_of_pos k hl
  have hat:atI (a::r) (k%((a::r).length:Int))=some ((a::r).getD (k%((a::r).length:Int)).toNat 0):=by
   refine jz hm0 ?_
   have:(k%((a::r).length:Int)).toNat<(a::r).length:=by lia
   rw[getD_eq_getElem?_getD,getElem?_eq_getElem this];rfl
  have hdv:jo (.int k) (.int ((a::r).length:Int))=.ok (.int (k / ((a::r).length:Int))):=uJ ⟨hl,by lia⟩
  have hmd:uz (.int k) (.int ((a::r).length:Int))=.ok (.int (k%((a::r).length:Int))):=ua hl
  have hml:=vi (i:=6553) (j:=k / ((a::r).length:Int)) (.inl ⟨by decide,by decide⟩)
  simp only[List.isEmpty_cons,Bool.false_eq_true,if_false,yq,zQ,yH,wL,wk,xG,ZI,zC,yd,getElem?_cons_zero,getElem?_cons_succ,xr,Rs.bind_ok,W4,hmd,hdv,hml,UQ hat,xD,Fl.of_ok,xO]
  simp[uq]
noncomputable def d1(ns:List Int)(k:Int):Int:=(uq ns k%2147483563*69069+104723*(k+1))%2147483563
noncomputable def d2(ns:List Int)(k:Int):Int:=(d1 ns k*d1 ns k+d1 ns k / 3)%2147483399
noncomputable def yu(ns:List Int)(k m:Int):Int:=(d2 ns k*d2 ns k+d2 ns k / 7)%2147483647 / 11%m
theorem xW(ns:List Int)(k m:Int)(h63:ns.length≤63)(h0:0≤k)(hk:k<1000000)(hm:0<m):zl [.scr ns,.int k,.int m]=.ok (.int (yu ns k m)):=by
 have st:zR 4 [D.scr ns,.int k,.int m]=[some (.val (.scr ns)),some (.val (.int k)),some (.val (.int m)),none]:=rfl
 have b1:0≤d1 ns k∧d1 ns k<2147483563:=⟨emod_nonneg _ (by decide),Int.emod_lt_of_pos _ (by decide)⟩
 have b2:0≤d2 ns k∧d2 ns k<2147483399:=⟨emod_nonneg _ (by decide),Int.emod_lt_of_pos _ (by decide)⟩
 have c0:=Int.emod_lt_of_pos (uq ns k) (show(0:Int)<2147483563 by decide)
 have c1:=emod_nonneg (uq ns k) (show(2147483563:Int)≠0 by decide)
 have q1:=vi (i:=uq ns k%2147483563) (j:=69069) (.inr ⟨by decide,by decide⟩)
 have q2:=vi (i:=104723) (j:=k+1) (.inl ⟨by decide,by decide⟩)
 have q3:=vi (i:=d1 ns k) (j:=d1 ns k) (.inl ⟨by lia,by lia⟩)
 have q4:=vi (i:=d2 ns k) (j:=d2 ns k) (.inl ⟨by lia,by lia⟩)
 have e1:(uq ns k%2147483563*69069+104723*(k+1))%2147483563=d1 ns k:=rfl
 have e2:(d1 ns k*d1 ns k+d1 ns k / 3)%2147483399=d2 ns k:=rfl
 have m1:=fun i=>ua (i:=i) (j:=2147483563) (by decide)
 have m2:=fun i=>ua (i:=i) (j:=2147483399) (by decide)
 have m3:=fun i=>ua (i:=i) (j:=2147483647) (by decide)
 have m4:=fun i=>ua (i:=i) (j:=m) hm
 have f3:=fun i=>uJ (i:=i) (j:=3) ⟨by decide,by decide⟩
 have f7:=fun i=>uJ (i:=i) (j:=7) ⟨by decide,by decide⟩
 have f11:=fun i=>uJ (i:=i) (j:=11) ⟨by decide,by decide⟩
 unfold zl vT
 rw[yh,st]
 simp only[zA,xF,yH,wL,xG,wk,xP,zC,yd,getElem?_cons_zero,getElem?_cons_succ,xr,Rs.bind_ok,U1 ns k h63 h0,uF,m1,q1,xD,q2,e1,Fl.of_ok,zQ,set_cons_succ,set_cons_zero,q3,f3,m2,e2,q4,f7,m3,f11,m4,xO]
 rfl
theorem xH(ns:List Int)(k:Int){m:Int}(hm:0<m):0≤yu ns k m∧yu ns k m<m:=⟨emod_nonneg _ (by lia),Int.emod_lt_of_pos _ hm⟩
end Law
set_option Elab.async false
set_option linter.all false
namespace FD
open PySem PySem.Spec PyProof.Rows L2
theorem jY{set:FG}{body:FS}(f:Nat→D)(S:Nat→DS):∀(m j:Nat),(∀k,j≤k→k<j+m→∃τ1,set (f k) (S k)=.ok τ1∧body τ1=.nx (S (k+1)))→xq set body ((List.range' j m).map f) (S j)=.nx (S (j+m)):=by
 intro l_
 induction l_ with
 |zero=>
  rintro j _
  exact rfl
 |succ m ih_=>
  rintro j h
  obtain⟨τ1,h1,h2⟩:=h j (le_refl _) (by lia)
  rw[List.range'_succ,map_cons,xq,h1,Fl.of_ok]
  simp only[h2]
  rw[ih_ (j+1) fun k hk hk2=>h k (by lia) (by lia)]
  congr 2;lia
theorem YF{set:FG}{body:FS}(f:Nat→D)(S:Nat→DS)(n:Nat)(h:∀k,k<n→∃τ1,set (f k) (S k)=.ok τ1∧body τ1=.nx (S (k+1))):xq set body ((List.range n).map f) (S 0)=.nx (S n):=by
 have:=jY f S n 0 fun k _ hk=>h k (by lia)
 rw[Nat.zero_add] at this
 rwa [List.range_eq_range']
theorem Wp{fs:FA}{τ:DS}{j:Int}(h:fs τ=.ok [.int j])(h1 : -(2 ^ 62)≤j)(h2:j<2 ^ 62):YJ fs τ=.ok (Yx 0 j.toNat):=by
 unfold YJ
 rw[h]
 simp only[Rs.bind_ok,Vd]
 rw[if_pos ⟨h1,h2⟩]
theorem VP(a:List Nat)(c:Nat):(⟨a.toArray⟩:Str)++(⟨#[c]⟩:Str)=⟨(a++[c]).toArray⟩:=by
 show Str.mk _=_
 simp
theorem Vg{n:Nat}{d:D}{τ:DS}:gNm n d τ=.ok (τ.set n (some (.val d))):=rfl
end FD
namespace Law
open PySem PySem.Spec PyProof.Rows L2 FD
noncomputable def A18:List Nat:=[97,98,99,97,98,65,66,67,97,98,49,95,45,46,47,120,121,122]
noncomputable def jX(ns:List Int)(a:Int):Nat:=(1+yu ns a 10).toNat
noncomputable def W0(ns:List Int)(a:Int)(k:Nat):Nat:=A18.getD (yu ns (a+1+k) 18).toNat 0
noncomputable def wg(ns:List Int)(a:Int)(n:Nat):List Nat:=(List.range n).map (W0 ns a)
theorem a18:("abcabABCab1_-./xyz" : Str).cps.toList=A18:=by decide +kernel
theorem Uw(ns:List Int)(a:Int)(h63:ns.length≤63)(h0:0≤a)(ha:a<900000):yi [.scr ns,.int a]=.ok (.str ⟨(wg ns a (jX ns a)).toArray⟩):=by
 have st:zR 4 [D.scr ns,.int a]=[some (.val (.scr ns)),some (.val (.int a)),none,none]:=rfl
 have dl:=xH ns a (m:=10) (by decide)
 unfold yi ut
 rw[yh,st,zA,xF,wk,Fl.of_ok,zQ,zA,VV]
 have r1:=Wp (fs:=za (eOp zG (eC (.int 1)) (zD zl (za (zd 0) (za (zd 1) (za (eC (.int 10)) zh))))) zh) (τ:=[some (.val (.scr ns)),some (.val (.int a)),some (.val (.str "")),none]) (j:=1+yu ns a 10)
  (by simp only[zC,yd,wL,wk,xP,xG,getElem?_cons_zero,getElem?_cons_succ,xr,Rs.bind_ok,xW ns a 10 h63 h0 (by lia) (by decide),uF,xD]) (by lia) (by lia)
 simp only[set_cons_succ,set_cons_zero]
 rw[r1,Fl.of_ok]
 let S:Nat→DS:=fun k=>[some (.val (.scr ns)),some (.val (.int a)),some (.val (.str ⟨(wg ns a k).toArray⟩)),if k=0 then none else some (.val (.int ((k:Int)-1)))]
 have s0:S 0=[some (.val (.scr ns)),some (.val (.int a)),some (.val (.str "")),none]:=by
  simp only[S,wg,List.range_zero,map_nil,if_true]
  rfl
 rw[← s0]
 have lp:=YF (set:=gNm 3) (body:=(y7 2 (eOp zG (zd 2) (eOp ixD (eC (.str "abcabABCab1_-./xyz")) (zD zl (za (zd 0) (za (eOp zG (eOp zG (zd 1) (eC (.int 1))) (zd 3)) (za (eC (.int 18)) zh)))))))) (fun (k:Nat)=>D.int (0+k)) S (1+yu ns a 10).toNat fun k hk=>by
  refine⟨_,Vg,?_⟩
  have hk':(k:Int)<20:=by lia
  have dk:=xH ns (a+1+(0+(k:Int))) (m:=18) (by decide)
  have hd:=xW ns (a+1+(0+(k:Int))) 18 h63 (by lia) (by lia) (by decide)
  have hix:=Xi (a := "abcabABCab1_-./xyz") (k:=yu ns (a+1+(0+(k:Int))) 18) (c:=A18.getD (yu ns (a+1+(0+(k:Int))) 18).toNat 0) (jz dk.1 (by
   rw[a18]
   have:(yu ns (a+1+(0+(k:Int))) 18).toNat<A18.length:=by
    have:A18.length=18:=rfl
    lia
   rw[getD_eq_getElem?_getD,getElem?_eq_getElem this];rfl)) (by decide +kernel)
  have hadd:=VC (a:=⟨(wg ns a k).toArray⟩) (b:=⟨#[A18.getD (yu ns (a+1+(0+(k:Int))) 18).toNat 0]⟩) (by
   show(wg ns a k).toArray.size+1≤sizeLine
   rw[Yu,size_toArray]
   simp only[wg,length_map,List.length_range];lia)
  simp only[S,set_cons_succ,set_cons_zero,xF,wL,wk,xP,zC,yd,xG,getElem?_cons_zero,getElem?_cons_succ,xr,Rs.bind_ok,xD,hd,uF,hix,zy,hadd,Fl.of_ok,VP]
  have e1:wg ns a k++[A18.getD (yu ns (a+1+(0+(k:Int))) 18).toNat 0]=wg ns a (k+1):=by
   simp only[wg,List.range_succ,map_append,map_cons,map_nil,W0,Int.zero_add]
  rw[e1]
  simp
 unfold Yx
 rw[lp,zQ]
 simp only[S,yH,xG,getElem?_cons_zero,getElem?_cons_succ,xr,Fl.of_ok,xO]
 rfl
end Law
set_option Elab.async false
set_option linter.all false
set_option maxHeartbeats 1000000
namespace FD
open PySem PySem.Spec PyProof.Rows L2
section
variable{τ:DS}{fa fb fe fi:FE}{fs:FA}{n:Nat}{i:Int}
theorem Vl:Vm n τ=(Ye τ[n]?).bind fun ds=>.ok (.int ds.length):=rfl
theorem VW:VX n fe τ=Fl.of (Ye τ[n]?) fun ds=>Fl.of (fe τ) fun d=>if ds.length<sizeLine then .nx (τ.set n (some (.own (ds++[d])))) else .no:=rfl
theorem uI:xz fe τ=(fe τ).bind Jj:=rfl
noncomputable def putAt(n:Nat)(ds:List D)(d:D)(τ:DS):D→Fl
 |.int k=>match ixN ds.length k with
  |some j=>.nx (τ.set n (some (.own (ds.set j d))))
  |none=>.no
 |_=>.no
theorem VT:VU n fi fe τ=Fl.of (fe τ) fun d=>Fl.of (Ye τ[n]?) fun ds=>Fl.of (fi τ) (putAt n ds d τ):=by
 unfold VU wZ
 cases fe τ <;> rfl
theorem Wt{ds:List D}{d:D}{j:Nat}(h:j<ds.length):putAt n ds d τ (.int j)=.nx (τ.set n (some (.own (ds.set j d)))):=by
 have:ixN ds.length (j:Int)=some j:=by
  unfold ixN
  rw[if_pos (by lia),if_pos (by lia)]
  simp
 simp only[putAt,this]
noncomputable def ixO(ds:List D):D→Rs D
 |.int k=>match atI ds k with
  |some d=>.ok d
  |none=>.no
 |_=>.no
theorem UZ:U0 n fi τ=(Ye τ[n]?).bind fun ds=>(fi τ).bind (ixO ds):=by
 unfold U0
 show(Ye τ[n]?).bind _=_
 cases Ye τ[n]? <;> rfl
end
theorem wn{ds:List D}(h:ds.length≤1000):ds.length≤sizeLine:=by rw[sizeLine_eq];lia
theorem tup2{fa fb:FE}{τ:DS}{a b:D}(h1:fa τ=.ok a)(h2:fb τ=.ok b):Yi (za fa (za fb zh)) τ=.ok (.tup [a,b]):=by
 rw[UY,zC,h1,Rs.bind_ok,zC,h2,Rs.bind_ok,yd,Rs.bind_ok,Rs.bind_ok,Rs.bind_ok]
 exact if_pos (wn (by simp))
theorem lst1e{fa:FE}{τ:DS}{a:D}(h1:fa τ=.ok a):y9 (za fa zh) τ=.ok (.lst [a]):=by
 rw[vP,zC,h1,Rs.bind_ok,yd,Rs.bind_ok,Rs.bind_ok]
 exact if_pos (wn (by simp))
theorem JW{τ:DS}:y9 zh τ=.ok (.lst []):=by rw[vP,yd,Rs.bind_ok];exact if_pos (zero_le _)
theorem vQ{f:List D→Rs D}{fa:FE}{τ:DS}{a d:D}(h1:fa τ=.ok a)(h:f [a]=.ok d):zD f (za fa zh) τ=.ok d:=by
 rw[xP,zC,h1,Rs.bind_ok,yd,Rs.bind_ok,Rs.bind_ok,h];rfl
theorem call2{f:List D→Rs D}{fa fb:FE}{τ:DS}{a b d:D}(h1:fa τ=.ok a)(h2:fb τ=.ok b)(h:f [a,b]=.ok d):zD f (za fa (za fb zh)) τ=.ok d:=by
 rw[xP,zC,h1,Rs.bind_ok,zC,h2,Rs.bind_ok,yd,Rs.bind_ok,Rs.bind_ok,Rs.bind_ok,h];rfl
theorem j5{f:List D→Rs D}{fa fb fc:FE}{τ:DS}{a b c d:D}(h1:fa τ=.ok a)(h2:fb τ=.ok b)(h3:fc τ=.ok c)(h:f [a,b,c]=.ok d):zD f (za fa (za fb (za fc zh))) τ=.ok d:=by
 rw[xP,zC,h1,Rs.bind_ok,zC,h2,Rs.bind_ok,zC,h3,Rs.bind_ok,yd,Rs.bind_ok,Rs.bind_ok,Rs.bind_ok,Rs.bind_ok,h];rfl
theorem op2{op:D→D→Rs D}{fa fb:FE}{τ:DS}{a b:D}{r:Rs D}(h1:fa τ=.ok a)(h2:fb τ=.ok b)(h:op a b=r):eOp op fa fb τ=r:=by
 rw[wL,h1,Rs.bind_ok,h2,Rs.bind_ok,h]
theorem zo{n:Nat}{τ:DS}{d:D}(h:τ[n]?=some (some (.val d))):zd n τ=.ok d:=by rw[xG,h];rfl
theorem xY{k:Nat}{idx:List Nat}{fi:FA}{set:FG}{ft:FT}{fe:FE}{τ:DS}{ds xs:List D}(h1:fi τ=.ok ds)(h2:xt set ft fe (xu k idx τ) ds=.ok xs)(h3:xs.length≤1000):yQ k idx fi set ft fe τ=.ok xs:=by
 unfold yQ
 rw[h1,Rs.bind_ok,h2]
 exact if_pos (wn h3)
theorem tru_ok{fe:FE}{τ:DS}{b:Bool}(h:fe τ=.ok (.bl b)):uP fe τ=.ok b:=by rw[VI,h];rfl
theorem yt{fe:FE}{τ:DS}{b:Bool}(h:fe τ=.ok (.bl b)):FD.tB fe τ=.ok b:=by rw[Wh,h];rfl
theorem ZQ{f:FT}{τ:DS}{b:Bool}(h:f τ=.ok b):wx f τ=.ok (!b):=by rw[VJ,h];rfl
theorem WQ{f g:FT}{τ:DS}(h:f τ=.ok true):wc f g τ=.ok true:=by rw[Wd,h];rfl
theorem Z6{f g:FT}{τ:DS}{b:Bool}(h:f τ=.ok false)(h2:g τ=.ok b):wc f g τ=.ok b:=by rw[Wd,h,Rs.bind_ok,if_neg (by simp),h2]
theorem Vy{f g:FT}{τ:DS}(h:f τ=.ok false):xS f g τ=.ok false:=by rw[Zf,h];rfl
theorem Vx{f g:FT}{τ:DS}{b:Bool}(h:f τ=.ok true)(h2:g τ=.ok b):xS f g τ=.ok b:=by rw[Zf,h,Rs.bind_ok,if_pos rfl,h2]
theorem or_l{fa fb:FE}{τ:DS}(h:fa τ=.ok (.bl true)):eOr fa fb τ=.ok (.bl true):=by rw[Vk,h];rfl
theorem or_r{fa fb:FE}{τ:DS}{d:D}(h:fa τ=.ok (.bl false))(h2:fb τ=.ok d):eOr fa fb τ=.ok d:=by rw[Vk,h,Rs.bind_ok,VH,Rs.bind_ok,if_neg (by simp),h2]
theorem vR{g:List D→Rs D}{fa:FE}{τ:DS}{a d:D}(h1:fa τ=.ok a)(h:g [a]=.ok d):yn g (za fa zh) τ=.ok d:=by
 rw[ZI,zC,h1,Rs.bind_ok,yd,Rs.bind_ok,Rs.bind_ok,h]
theorem blt2{g:List D→Rs D}{fa fb:FE}{τ:DS}{a b d:D}(h1:fa τ=.ok a)(h2:fb τ=.ok b)(h:g [a,b]=.ok d):yn g (za fa (za fb zh)) τ=.ok d:=by
 rw[ZI,zC,h1,Rs.bind_ok,zC,h2,Rs.bind_ok,yd,Rs.bind_ok,Rs.bind_ok,Rs.bind_ok,h]
theorem mt1{T:String}{g:D→List D→Rs D}{fo fa:FE}{τ:DS}{o a:D}{r:Rs D}(h0:fo τ=.ok o)(ht:ZA T o=true)(h1:fa τ=.ok a)(h:g o [a]=r):eMt T g fo (za fa zh) τ=r:=by
 rw[Qk,h0,Rs.bind_ok,if_pos ht,zC,h1,Rs.bind_ok,yd,Rs.bind_ok,Rs.bind_ok,h]
theorem Jx{fa:FE}{τ:DS}{n:Nat}(h:fa τ=.ok (.int (n:Int)))(hn:n≤1000):YJ (za fa zh) τ=.ok ((List.range n).map fun (k:Nat)=>D.int (0+k)):=by
 rw[Wp (j:=(n:Int)) (by rw[zC,h,Rs.bind_ok,yd,Rs.bind_ok]) (by lia) (by lia),Int.toNat_natCast];rfl
theorem wN{set:FG}{fe:FE}{τ:DS}{α β:Type}(f:α→D)(g:β→D)(h:α→β):∀(xs:List α),(∀a∈xs,∃τ1,set (f a) τ=.ok τ1∧fe τ1=.ok (g (h a)))→xt set (fun _=>.ok true) fe τ (xs.map f)=.ok ((xs.map h).map g):=by
 intro l_
 induction l_ with
 |nil=>
  rintro _
  exact rfl
 |cons a xs ih_=>
  rintro hs
  obtain⟨τ1,h1,h2⟩:=hs a (mem_cons_self ..)
  rw[map_cons,xt,h1]
  simp only[h2,ih_ fun b hb=>hs b (mem_cons_of_mem _ hb),Rs.bind_ok,map_cons]
theorem wO{set:FG}{ft:FT}{fe:FE}{τ:DS}{α:Type}(f g:α→D)(p:α→Bool):∀(xs:List α),(∀a∈xs,∃τ1,set (f a) τ=.ok τ1∧ft τ1=.ok (p a)∧fe τ1=.ok (g a))→xt set ft fe τ (xs.map f)=.ok ((xs.filter p).map g):=by
 intro l_
 induction l_ with
 |nil=>
  rintro _
  exact rfl
 |cons a xs ih_=>
  rintro hs
  obtain⟨τ1,h1,h2,h3⟩:=hs a (mem_cons_self ..)
  have ih:=ih_ fun b hb=>hs b (mem_cons_of_mem _ hb)
  rw[map_cons,xt,h1]
  cases hp:p a
  ·rw[hp] at h2
   simp only[h2,ih,List.filter_cons,hp,Bool.false_eq_true,if_false]
  ·rw[hp] at h2
   simp only[h2,h3,ih,List.filter_cons,hp,if_true,Rs.bind_ok,map_cons]
theorem ym(x:List Nat):(⟨x.toArray⟩:Str).length=x.length:=by show x.toArray.size=_;simp
theorem uO(x:List Nat)(h:x.length≤1000):y8 [tx x]=.ok (.int x.length):=by
 rw[tx,W3 (by rw[sizeLine_eq,ym];lia),ym]
theorem X8(x:List Nat)(j:Nat)(c:Nat)(h:x[j]?=some c)(hl:x.length≤1000):ixD (tx x) (.int j)=.ok (zy c):=by
 refine Xi (jz (by lia) (by simpa using h)) (by rw[sizeLine_eq,ym];lia)
theorem vx(x:List Nat):xM ⟨x.toArray⟩=x.map zy:=by simp[xM]
theorem wA(a b:List Nat)(h:a.length+b.length≤16777216):zG (tx a) (tx b)=.ok (tx (a++b)):=by
 rw[tx,tx,VC (by rw[sizeLine_eq,ym,ym];exact h)]
 show Rs.ok (D.str (Str.mk _))=_
 simp[tx]
theorem Zw(ds:List D)(j:Nat)(d:D)(h:ds[j]?=some d):ixD (.lst ds) (.int j)=.ok d:=Xj (jz (by lia) (by simpa using h))
theorem Wa(ds:List D)(j:Nat)(d:D)(h:ds[j]?=some d):ixD (.tup ds) (.int j)=.ok d:=by
 show(match atI ds (j:Int) with|some d=>Rs.ok d|none=>.no)=_
 rw[jz (k:=(j:Int)) (by lia) (by simpa using h)]
theorem uH(a b:List D)(h:a.length+b.length≤16777216):zG (.lst a) (.lst b)=.ok (.lst (a++b)):=by
 show(if _ then Rs.ok (D.lst _) else Rs.no)=_
 rw[if_pos (by rw[sizeLine_eq];exact h)]
theorem YW(a b:List Nat):((⟨a.toArray⟩:Str)==⟨b.toArray⟩)=decide (a=b):=by
 rw[Bool.eq_iff_iff,beq_iff_eq,decide_eq_true_iff]
 constructor
 ·intro h
  have:=congrArg (fun s:Str=>s.cps.toList) h
  simpa using this
 ·intro h;rw[h]
theorem jJ(a b:List Nat):eqD (tx a) (tx b)=.ok (.bl (decide (a=b))):=by rw[tx,tx,eqD_s,YW]
theorem X7(a b:List Nat):neD (tx a) (tx b)=.ok (.bl (!decide (a=b))):=by rw[tx,tx,neD_s,YW]
theorem uS(x:List Nat)(h:x≠[]):Txt.slice (⟨x.toArray⟩:Str) none (some (-1))=⟨x.dropLast.toArray⟩:=by
 have hl:0<x.length:=List.length_pos_iff.mpr h
 have:=eq_of_beq (slice_closes_to_neg (x:=⟨x.toArray⟩) (j:=-1) (k:=_) (by lia) (by rw[ym];lia) rfl)
 rw[this,ym]
 congr 2
 show List.take _ (List.drop 0 x)=_
 rw[List.drop_zero,List.dropLast_eq_take]
 congr 1
 lia
end FD
set_option Elab.async false
set_option linter.all false
set_option maxHeartbeats 1000000
namespace Law
open PySem PySem.Spec PyProof.Rows L2 FD
noncomputable def jB(x:List Nat):Prop:=1≤x.length∧x.length≤10∧∀c∈x,c∈A18
theorem Uy(ns:List Int)(a:Int)(h63:ns.length≤63)(h0:0≤a)(ha:a<900000):∃x,yi [.scr ns,.int a]=.ok (tx x)∧jB x:=by
 refine⟨wg ns a (jX ns a),Uw ns a h63 h0 ha,?_⟩
 have dl:=xH ns a (m:=10) (by decide)
 have hl:(wg ns a (jX ns a)).length=jX ns a:=by simp[wg]
 refine⟨?_,?_,fun c hc=>?_⟩
 ·rw[hl,jX];lia
 ·rw[hl,jX];lia
 ·simp only[wg,mem_map,mem_range] at hc
  obtain⟨k,_,rfl⟩:=hc
  unfold W0
  have dk:=xH ns (a+1+k) (m:=18) (by decide)
  have:(yu ns (a+1+k) 18).toNat<A18.length:=by
   have:A18.length=18:=rfl
   lia
  rw[getD_eq_getElem?_getD,getElem?_eq_getElem this]
  exact getElem_mem this
noncomputable def nmE:FE:=(zD yi (za (zd 1) (za (eOp zG (eOp zG (zd 2) (eC (.int 1))) (eOp jI (eC (.int 12)) (zd 0))) zh)))
theorem ji(ns:List Int)(a:Int)(h63:ns.length≤63)(h0:0≤a)(ha:a<500000):∀(m j:Nat),j+m≤1000→∃L:List (List Nat),L.length=m∧(∀x∈L,jB x) ∧
  xt (gNm 0) (fun _=>.ok true) nmE [none,some (.val (.scr ns)),some (.val (.int a))] ((List.range' j m).map fun (k:Nat)=>D.int (0+k))=.ok (L.map tx):=by
 intro l_
 induction l_ with
 |zero=>
  rintro j _
  exact⟨[],rfl,by simp,rfl⟩
 |succ m ih_=>
  rintro j hj
  obtain⟨L,h1,h2,h3⟩:=ih_ (j+1) (by lia)
  obtain⟨x,e,hx⟩:=Uy ns (a+1+12*(j:Int)) h63 (by lia) (by lia)
  refine⟨x::L,by simp[h1],fun y hy=>(mem_cons.mp hy).elim (fun z=>by rw[z];exact hx) (h2 y),?_⟩
  have hm:=vi (i:=12) (j:=0+(j:Int)) (.inl ⟨by decide,by decide⟩)
  have he:nmE [some (.val (.int (0+(j:Int)))),some (.val (.scr ns)),some (.val (.int a))]=.ok (tx x):=by
   unfold nmE
   refine call2 (zo rfl) (op2 (op2 (zo rfl) rfl xD) (op2 rfl (zo rfl) hm) xD) ?_
   rw[Int.zero_add];exact e
  rw[List.range'_succ,map_cons,xt]
  simp only[Vg,set_cons_zero,he,h3,Rs.bind_ok,map_cons]
theorem WZ(ns:List Int)(a:Int)(m:Nat)(h63:ns.length≤63)(h0:0≤a)(ha:a<500000)(hm:m≤100):∃L:List (List Nat),yA [.scr ns,.int a,.int (m:Int)]=.ok (.lst (L.map tx))∧L.length≤m∧∀x∈L,jB x:=by
 have st:zR 4 [D.scr ns,.int a,.int (m:Int)]=[some (.val (.scr ns)),some (.val (.int a)),some (.val (.int (m:Int))),none]:=rfl
 have dl:=xH ns a (m:=(m:Int)+1) (by lia)
 obtain⟨n,hn⟩:∃n:Nat,yu ns a ((m:Int)+1)=(n:Int):=⟨(yu ns a ((m:Int)+1)).toNat,by lia⟩
 obtain⟨L,h1,h2,h3⟩:=ji ns a h63 h0 ha n 0 (by lia)
 have hd:=xW ns a ((m:Int)+1) h63 h0 (by lia) (by lia)
 rw[hn] at hd
 have hd5:=xW ns (a+12) 5 h63 (by lia) (by lia) (by decide)
 have ec:=xY (k:=1) (idx:=[0,1]) (fi:=(YJ (za (zD zl (za (zd 0) (za (zd 1) (za (eOp zG (zd 2) (eC (.int 1))) zh)))) zh))) (set:=gNm 0) (ft:=fun _=>.ok true) (fe:=nmE) (τ:=[some (.val (.scr ns)),some (.val (.int a)),some (.val (.int (m:Int))),none]) (xs:=L.map tx)
  (Jx (n:=n) (j5 (zo rfl) (zo rfl) (op2 (zo rfl) rfl xD) hd) (by lia)) (by rw[← List.range_eq_range'] at h3;exact h3) (by simp;lia)
 unfold nmE at ec
 unfold yA vS
 rw[yh,st]
 generalize zl=f at hd hd5 ec ⊢
 generalize yi=g at ec ⊢
 simp only[zA,Wm,yT,yq,VT,UZ,Vl,Wh,Zf,wL,xG,wk,yd,zC,xP,getElem?_cons_zero,getElem?_cons_succ,set_cons_succ,set_cons_zero,xr,wJ,Rs.bind_ok,Fl.of_ok,zQ,uh,xD,Yd,ec,length_map]
 by_cases hl:(1:Int)<(L.length:Int)
 ·simp only[Rs.bind_ok,Fl.of_ok,uF,uh,eqD_i,if_true,hl,decide_true,hd5]
  by_cases hz:yu ns (a+12) 5=0
  ·have hb:(yu ns (a+12) 5==0)=true:=by simpa using hz
   have hix:∃x∈L,ixO (L.map tx) (.int (-1))=.ok (tx x):=by
    have hlt:L.length-1<L.length:=by lia
    refine⟨L[L.length-1],getElem_mem hlt,?_⟩
    have:atI (L.map tx) (-1)=some (tx L[L.length-1]):=by
     unfold atI ixN
     rw[if_neg (by lia),if_pos (by rw[length_map];lia)]
     show(L.map tx)[((-1:Int)+((L.map tx).length:Int)).toNat]?=_
     rw[length_map,show((-1:Int)+(L.length:Int)).toNat=L.length-1 by lia,getElem?_map,getElem?_eq_getElem hlt];rfl
    simp only[ixO,this]
   obtain⟨x,hx,hix⟩:=hix
   have hneg:vO (eC (.int 1)) [some (.val (.scr ns)),some (.val (.int a)),some (.val (.int (m:Int))),some (.own (L.map tx))]=.ok (.int (-1)):=rfl
   have hput:=Wt (n:=3) (τ:=[some (.val (.scr ns)),some (.val (.int a)),some (.val (.int (m:Int))),some (.own (L.map tx))]) (ds:=L.map tx) (d:=tx x) (j:=0) (by rw[length_map];lia)
   have hput:putAt 3 (L.map tx) (tx x) [some (.val (.scr ns)),some (.val (.int a)),some (.val (.int (m:Int))),some (.own (L.map tx))] (.int 0)=_:=hput
   simp only[uW,u9,getElem?_cons_zero,getElem?_cons_succ,set_cons_succ,set_cons_zero,wJ,Rs.bind_ok,Fl.of_ok,zQ,xO,if_true,hb,hneg,hix,hput]
   refine⟨L.set 0 x,by rw[← List.map_set],by rw[List.length_set];lia,fun y hy=>?_⟩
   rcases List.mem_or_eq_of_mem_set hy with z|z
   ·exact h2 y z
   ·rw[z];exact h2 x hx
  ·have hb:(yu ns (a+12) 5==0)=false:=by simpa using hz
   simp only[uW,u9,getElem?_cons_zero,getElem?_cons_succ,wJ,Fl.of_ok,zQ,xO,Bool.false_eq_true,if_false,hb]
   exact⟨L,rfl,by lia,h2⟩
 ·simp only[uW,u9,getElem?_cons_zero,getElem?_cons_succ,wJ,Fl.of_ok,zQ,xO,Bool.false_eq_true,if_false,hl,decide_false]
  exact⟨L,rfl,by lia,h2⟩
noncomputable abbrev Row:=List Nat×Nat
noncomputable def zN(p:Row):D:=.tup [tx p.1,.int (p.2:Int)]
noncomputable def wM(n:Nat):List Nat:=(Nat.toDigits 10 n).map Char.toNat
noncomputable def yN(c:Nat):Bool:=decide (c∈List.range' 48 10)
noncomputable def val(x:List Nat):Nat:=x.foldl (fun n c=>10*n+(c-48)) 0
noncomputable def nuB(x:List Nat):Bool:=decide (1≤x.length∧x.length≤6)&&(x.all yN && !(decide (x[0]?=some 48)&&decide (1<x.length)))
theorem X5(x:List Nat)(c:Nat):val (x++[c])=10*val x+(c-48):=by simp[val,List.foldl_append]
theorem Xn:∀c∈List.range' 48 10,wM (c-48)=[c]∧c-48<10:=by decide +kernel
theorem ZG{c:Nat}(h:yN c=true):c∈List.range' 48 10:=of_decide_eq_true h
theorem ZF{c:Nat}(h:yN c=true):48≤c∧c≤57:=by
 have:=ZG h
 rw[List.mem_range'_1] at this;lia
theorem Vo{n d:Nat}(hn:0<n)(hd:d<10):wM (10*n+d)=wM n++wM d:=by
 unfold wM
 rw[← Nat.toDigits_append_toDigits (by decide) hn hd,map_append]
theorem ZO:∀(k:Nat) (x:List Nat),x.length=k+1→(∀c∈x,yN c=true)→(x[0]?=some 48→x.length=1)→wM (val x)=x∧val x<10 ^ x.length∧(x[0]?≠some 48→0<val x):=by
 intro l_
 induction l_ with
 |zero=>
  rintro x hl hf _
  match x,hl with
  |[c],_=>
   obtain⟨h1,h2⟩:=Xn c (ZG (hf c (by simp)))
   have hr:=ZF (hf c (by simp))
   have e:val [c]=c-48:=by simp[val]
   refine⟨by rw[e];exact h1,by rw[e];simpa using h2,fun hn=>?_⟩
   rw[e]
   have:c≠48:=fun z=>hn (by rw[z];rfl)
   lia
 |succ k ih_=>
  rintro x hl hf h0
  have hx:x≠[]:=fun z=>by subst z;simp at hl
  obtain⟨y,c,rfl⟩:∃y c,x=y++[c]:=⟨x.dropLast,x.getLast hx,(List.dropLast_concat_getLast hx).symm⟩
  have hy:y.length=k+1:=by simp at hl;lia
  have h0y:(y++[c])[0]?=y[0]?:=by rw[getElem?_append_left (by lia)]
  have hn:y[0]?≠some 48:=fun z=>by
   have:=h0 (by rw[h0y];exact z)
   rw[length_append,List.length_singleton] at this;lia
  obtain⟨i1,i2,i3⟩:=ih_ y hy (fun d hd=>hf d (by simp[hd])) (fun z=>absurd z hn)
  obtain⟨f1,f2⟩:=Xn c (ZG (hf c (by simp)))
  rw[X5]
  refine⟨by rw[Vo (i3 hn) f2,i1,f1],?_,fun _=>by have:=i3 hn;lia⟩
  rw[length_append,List.length_singleton,Nat.pow_succ]
  lia
theorem vg{x:List Nat}(h:nuB x=true):(1≤x.length∧x.length≤6)∧(∀c∈x,yN c=true)∧(x[0]?=some 48→x.length=1)∧wM (val x)=x∧val x<1000000:=by
 unfold nuB at h
 simp only[Bool.and_eq_true,decide_eq_true_eq,all_eq_true,Bool.not_eq_true',Bool.and_eq_false_iff,decide_eq_false_iff_not] at h
 obtain⟨h1,h2,h3⟩:=h
 have h0:x[0]?=some 48→x.length=1:=fun z=>by rcases h3 with q|q;exact absurd z q;lia
 obtain⟨v1,v2,_⟩:=ZO (x.length-1) x (by lia) h2 h0
 refine⟨h1,h2,h0,v1,?_⟩
 refine lt_of_lt_of_le v2 (le_trans (Nat.pow_le_pow_right (by decide) h1.2) (by decide))
theorem jf(n:Nat):Str.ofString (toString ((n:Nat):Int))=⟨(wM n).toArray⟩:=by
 apply vV
 rw[PySem.W.KIN.signs_num]
 simp[wM]
theorem Vc{x:List Nat}(h:nuB x=true):uo [tx x]=.ok (.int (val x:Int)):=by
 obtain⟨h1,_,_,h4,h5⟩:=vg h
 have:=PySem.W.KIN.num_reads (n:=(val x:Int)) (by lia) (by lia)
 rw[jf,h4] at this
 show(if _ then _ else _)=_
 rw[if_pos (by rw[ym];lia),this]
theorem sm_l:("abcdefghijklmnopqrstuvwxyz" : Str).cps.toList=List.range' 97 26:=by decide +kernel
theorem gr_l:("ABCDEFGHIJKLMNOPQRSTUVWXYZ" : Str).cps.toList=List.range' 65 26:=by decide +kernel
theorem Qi:("0123456789" : Str).cps.toList=List.range' 48 10:=by decide +kernel
theorem mk_ls:("_-./" : Str).cps.toList=[95,45,46,47]:=by decide +kernel
theorem al_l:("abcdefghijklmnopqrstuvwxyzABCDEFGHIJKLMNOPQRSTUVWXYZ0123456789_-./" : Str).cps.toList=List.range' 97 26++(List.range' 65 26++(List.range' 48 10++[95,45,46,47])):=by decide +kernel
noncomputable def Vb(c:Nat):Bool:=decide (c∈List.range' 97 26)||(decide (c∈List.range' 65 26)||decide (c∈List.range' 48 10))
noncomputable def ww(c:Nat):Bool:=Vb c||decide (c∈[95,45,46,47])
theorem ns_al(c:Nat):decide (c∈List.range' 97 26++(List.range' 65 26++(List.range' 48 10++[95,45,46,47])))=ww c:=by
 unfold ww Vb
 simp only[mem_append,Bool.decide_or,Bool.or_assoc]
theorem YC{c:Nat}(h:ww c=true):c<128∧c≠10∧c≠32:=by
 unfold ww Vb at h
 simp only[Bool.or_eq_true,decide_eq_true_eq,List.mem_range'_1,mem_cons,not_mem_nil,or_false] at h
 lia
theorem WR{fa fb:FE}{τ:DS}{a b:Bool}(h1:fa τ=.ok (.bl a))(h2:fb τ=.ok (.bl b)):eOr fa fb τ=.ok (.bl (a||b)):=by
 cases a
 ·rw[or_r h1 h2];rfl
 ·rw[or_l h1];rfl
theorem Ve(c:Nat)(x:Str){fe:FE}{τ:DS}(h:fe τ=.ok (zy c)):eOp inD fe (eC (.str x)) τ=.ok (.bl (decide (c∈x.cps.toList))):=op2 h rfl (by simp only[zy];rw[Jk,jN])
theorem Ws(c:Nat):yf [zy c]=.ok (.bl (Vb c)):=by
 have st:zR 1 [zy c]=[some (.val (zy c))]:=rfl
 have v:zd 0 [some (.val (zy c))]=.ok (zy c):=rfl
 have h1:=Ve c "abcdefghijklmnopqrstuvwxyz" v
 have h2:=Ve c "ABCDEFGHIJKLMNOPQRSTUVWXYZ" v
 have h3:=Ve c "0123456789" v
 rw[sm_l] at h1;rw[gr_l] at h2;rw[Qi] at h3
 unfold yf wy Vb
 rw[yh,st,yH,WR h1 (WR h2 h3)];rfl
theorem WW(c:Nat):zY [zy c]=.ok (.bl (ww c)):=by
 have st:zR 1 [zy c]=[some (.val (zy c))]:=rfl
 have v:zd 0 [some (.val (zy c))]=.ok (zy c):=rfl
 have h2:=Ve c "_-./" v
 rw[mk_ls] at h2
 unfold zY wP ww
 rw[yh,st,yH,WR (vQ v (Ws c)) h2];rfl
theorem Yp:∀l:List Bool,xJ (l.map D.bl)=some l:=by
 intro l_
 induction l_ with
 |nil=>
  exact rfl
 |cons b r ih_=>
  simp[xJ,ih_]
theorem VA{fe:FE}{τ:DS}{l:List Bool}(h:fe τ=.ok (.lst (l.map D.bl))):yn YN (za fe zh) τ=.ok (.bl (l.all id)):=by
 refine vR h ?_
 show YN [.lst (l.map D.bl)]=_
 simp only[YN,Yp]
noncomputable def nmB(x:List Nat):Bool:=decide (1≤x.length∧x.length≤24)&&x.all ww
theorem Xb{f g:FT}{τ:DS}{a b:Bool}(h1:f τ=.ok a)(h2:g τ=.ok b):wc f g τ=.ok (a||b):=by
 cases a
 ·rw[Z6 h1 h2];rfl
 ·rw[WQ h1];rfl
theorem Vz{f g:FT}{τ:DS}{a b:Bool}(h1:f τ=.ok a)(h2:g τ=.ok b):xS f g τ=.ok (a&&b):=by
 cases a
 ·rw[Vy h1];rfl
 ·rw[Vx h1 h2];rfl
theorem XT(x:List Nat)(hx:x.length≤1000):xn [tx x]=.ok (.bl (nmB x)):=by
 have st:zR 1 [tx x]=[some (.val (tx x))]:=rfl
 have hi:Va [tx x,.raw (.ty "str")]=.ok (.bl true):=rfl
 have hl:=uO x hx
 have cm:=wN (set:=gNm 0) (fe:=zD zY (za (zd 0) zh)) (τ:=[none]) zy D.bl ww x fun c _=>⟨[some (.val (zy c))],rfl,vQ (zo rfl) (WW c)⟩
 have hit:xz (zd 0) [some (.val (tx x))]=.ok (x.map zy):=by
  show Rs.ok (xM ⟨x.toArray⟩)=_
  rw[vx]
 have ec:=xY (k:=1) (idx:=[]) (τ:=[some (.val (tx x))]) hit cm (by simp;lia)
 have ha:=VA (fe:=fun τ=>((yQ 1 [] (xz (zd 0)) (gNm 0) (fun _=>.ok true) (zD zY (za (zd 0) zh))) τ).bind fun ds=>.ok (.lst ds)) (τ:=[some (.val (tx x))]) (l:=x.map ww) (by simp only[ec,Rs.bind_ok])
 have hall:(x.map ww).all id=x.all ww:=by rw[List.all_map];rfl
 rw[hall] at ha
 have t1:wx (uP (yn Va (za (zd 0) (za (eC (.raw (.ty "str"))) zh)))) [some (.val (tx x))]=.ok false:=ZQ (b:=true) (tru_ok (blt2 (zo rfl) rfl hi))
 have t2:wc (FD.tB (eOp ltI (yn y8 (za (zd 0) zh)) (eC (.int 1)))) (FD.tB (eOp gtD (yn y8 (za (zd 0) zh)) (eC (.int 24)))) [some (.val (tx x))]=.ok (decide ((x.length:Int)<1)||decide ((24:Int)<x.length)):=
  Xb (yt (op2 (vR (zo rfl) hl) rfl Jg)) (yt (op2 (vR (zo rfl) hl) rfl Yd))
 unfold xn Zb
 rw[yh,st,zA,yT,t1,Fl.of_ok,if_neg (by simp),yq,zQ,zA,yT,t2,Fl.of_ok]
 by_cases hb:1≤x.length∧x.length≤24
 ·rw[if_neg (by simp;lia),yq,zQ,yH,ha]
  unfold nmB
  rw[decide_eq_true hb];rfl
 ·rw[if_pos (by simp;lia)]
  unfold nmB
  rw[decide_eq_false hb];rfl
theorem XQ(x:List Nat)(hx:x.length≤1000):yG [tx x]=if nuB x=true then .ok (.int (val x:Int)) else .ex "NoText" := by
 have st:zR 1 [tx x]=[some (.val (tx x))]:=rfl
 have hl:=uO x hx
 have cm:=wN (set:=gNm 0) (fe:=(eOp inD (zd 0) (eC (.str "0123456789")))) (τ:=[none]) zy D.bl yN x fun c _=>⟨[some (.val (zy c))],rfl,by
  have:=Ve c "0123456789" (fe:=zd 0) (τ:=[some (.val (zy c))]) rfl
  rw[Qi] at this
  exact this⟩
 have hit:xz (zd 0) [some (.val (tx x))]=.ok (x.map zy):=by
  show Rs.ok (xM ⟨x.toArray⟩)=_
  rw[vx]
 have ec:=xY (k:=1) (idx:=[]) (τ:=[some (.val (tx x))]) hit cm (by simp;lia)
 have ha:=VA (fe:=fun τ=>((yQ 1 [] (xz (zd 0)) (gNm 0) (fun _=>.ok true) (eOp inD (zd 0) (eC (.str "0123456789")))) τ).bind fun ds=>.ok (.lst ds)) (τ:=[some (.val (tx x))]) (l:=x.map yN) (by simp only[ec,Rs.bind_ok])
 have hall:(x.map yN).all id=x.all yN:=by rw[List.all_map];rfl
 rw[hall] at ha
 have t1:wc (FD.tB (eOp ltI (yn y8 (za (zd 0) zh)) (eC (.int 1)))) (FD.tB (eOp gtD (yn y8 (za (zd 0) zh)) (eC (.int 6)))) [some (.val (tx x))]=.ok (decide ((x.length:Int)<1)||decide ((6:Int)<x.length)):=
  Xb (yt (op2 (vR (zo rfl) hl) rfl Jg)) (yt (op2 (vR (zo rfl) hl) rfl Yd))
 have t2:=ZQ (tru_ok ha)
 unfold yG va
 rw[yh,st,zA,yT,t1,Fl.of_ok]
 by_cases hb:1≤x.length∧x.length≤6
 rotate_left
 ·rw[if_pos (by simp;lia)]
  have:nuB x=false:=by unfold nuB;rw[decide_eq_false hb];rfl
  rw[if_neg (by rw[this];simp)];rfl
 rw[if_neg (by simp;lia),yq,zQ,zA,yT,t2,Fl.of_ok]
 by_cases hf:x.all yN=true
 rotate_left
 ·rw[if_pos (by simpa using hf)]
  have:nuB x=false:=by unfold nuB;rw[Bool.eq_false_iff.mpr hf];simp
  rw[if_neg (by rw[this];simp)];rfl
 rw[if_neg (by rw[hf];simp),yq,zQ,zA,yT]
 obtain⟨c,hc⟩:∃c,x[0]?=some c:=⟨x[0],getElem?_eq_getElem (by lia)⟩
 have hix:=X8 x 0 c hc (by lia)
 have e0:("0" : Str)=(⟨#[48]⟩:Str):=by decide +kernel
 have t3:xS (FD.tB (eOp eqD (eOp ixD (zd 0) (eC (.int 0))) (eC (.str "0")))) (FD.tB (eOp gtD (yn y8 (za (zd 0) zh)) (eC (.int 1)))) [some (.val (tx x))]=.ok (decide ([c]=[48])&&decide ((1:Int)<x.length)):=by
  refine Vz (yt (op2 (op2 (zo rfl) rfl hix) rfl ?_)) (yt (op2 (vR (zo rfl) hl) rfl Yd))
  rw[e0];exact jJ [c] [48]
 rw[t3,Fl.of_ok]
 by_cases h3:x[0]?=some 48∧1<x.length
 ·rw[hc] at h3
  have e:c=48:=by simpa using h3.1
  rw[if_pos (by simp[e];lia)]
  have:nuB x=false:=by unfold nuB;rw[hc,e,decide_eq_true h3.2];simp
  rw[if_neg (by rw[this];simp)];rfl
 ·have hn:nuB x=true:=by
   unfold nuB
   rw[decide_eq_true hb,hf]
   simp only[Bool.true_and,Bool.not_eq_true',Bool.and_eq_false_iff,decide_eq_false_iff_not]
   by_cases z:x[0]?=some 48
   ·exact .inr fun y=>h3 ⟨z,y⟩
   ·exact .inl z
  rw[if_neg (by
   rw[hc] at h3
   simp only[Bool.and_eq_true,decide_eq_true_eq,List.cons.injEq,and_true]
   rintro⟨z1,z2⟩
   exact h3 ⟨by rw[z1],by lia⟩),yq,zQ,if_pos hn]
  show vL (yx (yB (yn uo (za (zd 0) zh))) [some (.val (tx x))])=_
  unfold yx
  rw[yH,vR (zo rfl) (Vc hn)];rfl
noncomputable def xX:List Nat→Option (List Nat×List Nat)
 |[]=>none
 |c::r=>if c=32 then some ([],r) else (xX r).map fun p=>(c::p.1,p.2)
theorem Yj:∀{l:List Nat},xX l=none→32∉l
 |[],_=>by simp
 |c::r,h=>by
  unfold xX at h
  split at h
  ·cases h
  ·rename_i z
   have:=Yj (l:=r) (by simpa using h)
   intro q
   rcases mem_cons.mp q with q|q
   ·exact z q.symm
   ·exact this q
theorem jt:∀{l a b:List Nat},xX l=some (a,b)→l=a++32::b∧32∉a
 |[],_,_,h=>by cases h
 |c::r,a,b,h=>by
  unfold xX at h
  split at h
  ·rename_i z
   cases h
   exact⟨by rw[z];rfl,by simp⟩
  ·rename_i z
   cases q:xX r with
   |none=>rw[q] at h;cases h
   |some p=>
    obtain⟨a',b'⟩:=p
    rw[q] at h
    cases h
    obtain⟨e1,e2⟩:=jt q
    refine⟨by rw[e1];rfl,fun y=>?_⟩
    rcases mem_cons.mp y with y|y
    ·exact z y.symm
    ·exact e2 y
noncomputable def vc(l:List Nat):Option Row:=match xX l with
 |none=>none
 | some (a,b)=>if nmB b&&nuB a then some (b,val a) else none
noncomputable def zU(p:Row):List Nat:=wM p.2++32::p.1
noncomputable def xi(p:Row):Prop:=nmB p.1=true∧nuB (wM p.2)=true∧p.2<1000000
theorem V7{l:List Nat}{p:Row}(h:vc l=some p):l=zU p∧xi p:=by
 unfold vc at h
 cases q:xX l with
 |none=>rw[q] at h;cases h
 |some ab=>
  obtain⟨a,b⟩:=ab
  rw[q] at h
  simp only at h
  split at h
  ·rename_i z
   cases h
   simp only[Bool.and_eq_true] at z
   obtain⟨_,_,_,h4,h5⟩:=vg z.2
   exact⟨by rw[zU,h4];exact(jt q).1,z.1,by rw[h4];exact z.2,h5⟩
  ·cases h
theorem XH(c:Nat)(a:List Nat)(ha:c∉a):Txt.partition ⟨a.toArray⟩ ⟨#[c]⟩=(⟨a.toArray⟩,⟨#[]⟩,⟨#[]⟩):=by
 have hh:=StrLaws.occ_head ⟨a.toArray⟩ ⟨#[c]⟩ 1 (le_refl _)
 have at_iff:∀i,StrLaws.At ⟨a.toArray⟩ ⟨#[c]⟩ (Str.length ⟨a.toArray⟩) i↔a[i]?=some c:=fun i=>by
  have:=StrLaws.subAt_one ⟨a.toArray⟩ c i
  unfold StrLaws.At
  rw[this]
 rcases hh with ⟨h0,h⟩|⟨i,r,h1,h2,h3⟩
 ·unfold Txt.partition
  rw[h0];rfl
 ·exact absurd (List.mem_of_getElem? ((at_iff i).mp h2)) ha
theorem Y3{r:DS→Rs D}{τ:DS}:ZV r τ=match r τ with
 |.ok d=>.rt d
 |.ex c=>.rs c τ
 |.no=>.no:=rfl
theorem Jw(l:List Nat)(hx:l.length≤1000):z6 [tx l]=match vc l with
  |some p=>.ok (zN p)
  |none=>.ex "NoText" := by
 have st:zR 2 [tx l]=[some (.val (tx l)),none]:=rfl
 have eb:(" " : Str)=(⟨#[32]⟩:Str):=by decide +kernel
 have go:∀(a b:List Nat) (m:Str),a.length≤1000→b.length≤1000→Txt.partition ⟨l.toArray⟩ ⟨#[32]⟩=(⟨a.toArray⟩,m,⟨b.toArray⟩)→z6 [tx l]=if nmB b=true then (if nuB a=true then .ok (zN (b,val a)) else .ex "NoText") else .ex "NoText" := fun a b m la lb hpt=>by
  have hp:u5 (tx l) [.str " "]=.ok (.tup [tx a,.str m,tx b]):=by
   rw[eb]
   show(if _ then _ else _)=_
   rw[if_pos ⟨by show 0<1;lia,by rw[ym,sizeLine_eq];lia⟩,hpt];rfl
  have h1:eMt "str" u5 (zd 0) (za (eC (.str " ")) zh) [some (.val (tx l)),none]=.ok (.tup [tx a,.str m,tx b]):=mt1 (zo rfl) rfl rfl hp
  have i2:=Wa [tx a,.str m,tx b] 2 (tx b) rfl
  have i0:=Wa [tx a,.str m,tx b] 0 (tx a) rfl
  have t:wx (uP (zD xn (za (eOp ixD (zd 1) (eC (.int 2))) zh))) [some (.val (tx l)),some (.val (.tup [tx a,.str m,tx b]))]=.ok (!nmB b):=ZQ (tru_ok (vQ (op2 (zo rfl) rfl i2) (XT b lb)))
  have e2:eOp ixD (zd 1) (eC (.int 2)) [some (.val (tx l)),some (.val (.tup [tx a,.str m,tx b]))]=.ok (tx b):=op2 (zo rfl) rfl i2
  have e1:za (eOp ixD (zd 1) (eC (.int 0))) zh [some (.val (tx l)),some (.val (.tup [tx a,.str m,tx b]))]=.ok [tx a]:=by
   rw[zC,op2 (zo rfl) rfl i0,Rs.bind_ok,yd,Rs.bind_ok]
  unfold z6 jx
  rw[yh,st,zA]
  show vL (Fl.thn (yx (y7 1 (eMt "str" u5 (zd 0) (za (eC (.str " ")) zh))) [some (.val (tx l)),none]) _)=_
  have q1:yx (y7 1 (eMt "str" u5 (zd 0) (za (eC (.str " ")) zh))) [some (.val (tx l)),none]=.nx [some (.val (tx l)),some (.val (.tup [tx a,.str m,tx b]))]:=by
   unfold yx
   rw[xF,h1];rfl
  rw[q1,zQ,zA,yT,t,Fl.of_ok]
  cases hb:nmB b with
  |false=>rfl
  |true=>
   rw[if_neg (by simp),yq,zQ,Y3]
   unfold Y4 wB
   rw[e2,e1]
   simp only
   rw[XQ a la]
   cases ha:nuB a with
   |false=>rfl
   |true=>rfl
 unfold vc
 cases q:xX l with
 |none=>
  rw[go l [] ⟨#[]⟩ hx (by simp) (XH 32 l (Yj q))];rfl
 |some ab=>
  obtain⟨a,b⟩:=ab
  obtain⟨e,hf⟩:=jt q
  have hl:=congrArg List.length e
  simp only[length_append,length_cons] at hl
  rw[go a b _ (by lia) (by lia) (by rw[e];exact WO 32 a b hf)]
  simp only
  cases nmB b <;> cases nuB a <;> rfl
theorem Qj(c d:Nat)(a:List Nat):Txt.endswith ⟨(a++[d]).toArray⟩ ⟨#[c]⟩=decide (d=c):=by
 have:=StrLaws.subAt_one ⟨(a++[d]).toArray⟩ c a.length
 have e1:Str.length ⟨(a++[d]).toArray⟩=a.length+1:=by
  show(a++[d]).toArray.size=_
  simp
 have e3:(a++[d])[a.length]?=some d:=by simp
 by_cases h:d=c
 ·subst h;rw[decide_eq_true rfl];exact Vj d a
 ·rw[decide_eq_false h]
  have hn:¬ ((⟨(a++[d]).toArray⟩:Str).cps.toList[a.length]?=some c):=by
   show ¬ ((a++[d])[a.length]?=some c)
   rw[e3];simpa using h
  cases q:Txt.endswith ⟨(a++[d]).toArray⟩ ⟨#[c]⟩ with
  |false=>rfl
  |true=>
   exfalso
   apply hn
   refine this.mp ?_
   unfold Txt.endswith at q
   rw[e1] at q ⊢
   have e2:Str.length ⟨#[c]⟩=1:=rfl
   rw[e2] at q ⊢
   simp only[Nat.add_sub_cancel,Bool.and_eq_true] at q
   exact⟨by lia,q.2⟩
theorem vm(c:Nat):∀(ls:List (List Nat)),ls≠[]→zp c (ls++[[]])=zp c ls++[c]
 |[],h=>absurd rfl h
 |[x],_=>by simp[zp]
 |x::y::r,_=>by
  have ih:=vm c (y::r) (by simp)
  show zp c (x::((y::r)++[[]]))=_
  rw[yW c x ((y::r)++[[]]) (by simp),ih,yW c x (y::r) (by simp)]
  simp
theorem XS:zT [tx []]=.ok (.lst []):=by
 have st:zR 1 [tx []]=[some (.val (tx []))]:=rfl
 have e0:("" : Str)=(⟨([]:List Nat).toArray⟩:Str):=by decide +kernel
 have t1:FD.tB (eOp eqD (zd 0) (eC (.str ""))) [some (.val (tx []))]=.ok (decide (([]:List Nat)=[])):=by
  refine yt (op2 (zo rfl) rfl ?_)
  rw[e0];exact jJ _ _
 have q1:yx (sIf (FD.tB (eOp eqD (zd 0) (eC (.str "")))) (yB (y9 zh)) yg) [some (.val (tx []))]=.rt (.lst []):=by
  unfold yx
  rw[yT,t1,Fl.of_ok,if_pos (by simp),yH,JW];rfl
 unfold zT vt
 rw[yh,st,zA,q1];rfl
theorem jZ(u:List Nat)(d:Nat):zT [tx (u++[d])]=if d=10 then vL (yx (yB (eMt "str" yO (eSl (zd 0) zL (zX (vO (eC (.int 1))))) (za (eC (.str "\n")) zh))) [some (.val (tx (u++[d])))]) else .ex "NoText" := by
 have st:zR 1 [tx (u++[d])]=[some (.val (tx (u++[d])))]:=rfl
 have e0:("" : Str)=(⟨([]:List Nat).toArray⟩:Str):=by decide +kernel
 have en:("\n" : Str)=(⟨#[10]⟩:Str):=by decide +kernel
 have t1:FD.tB (eOp eqD (zd 0) (eC (.str ""))) [some (.val (tx (u++[d])))]=.ok false:=by
  refine yt (op2 (zo rfl) rfl ?_)
  rw[e0]
  have:=jJ (u++[d]) []
  rw[decide_eq_false (by simp)] at this
  exact this
 have q1:yx (sIf (FD.tB (eOp eqD (zd 0) (eC (.str "")))) (yB (y9 zh)) yg) [some (.val (tx (u++[d])))]=.nx [some (.val (tx (u++[d])))]:=by
  unfold yx
  rw[yT,t1,Fl.of_ok,if_neg (by simp),yq]
 have t2:wx (uP (eMt "str" Xp (zd 0) (za (eC (.str "\n")) zh))) [some (.val (tx (u++[d])))]=.ok (!decide (d=10)):=by
  refine ZQ (tru_ok (mt1 (zo rfl) rfl rfl ?_))
  rw[en]
  show Rs.ok (D.bl (Txt.endswith _ _))=_
  rw[Qj]
 unfold zT vt
 rw[yh,st,zA,q1,zQ,zA,yT,t2,Fl.of_ok]
 by_cases h:d=10
 ·rw[if_neg (by simp[h]),yq,zQ,if_pos h]
 ·rw[if_pos (by simp[h]),if_neg h];rfl
theorem YG(ls:List (List Nat))(hn:ls≠[])(hf:∀l∈ls,10∉l)(hz:(zp 10 ls).length≤999)(hc:ls.length≤1000):zT [tx (zp 10 ls++[10])]=.ok (.lst (ls.map tx)):=by
 rw[jZ,if_pos rfl]
 have en:("\n" : Str)=(⟨#[10]⟩:Str):=by decide +kernel
 have hs:eSl (zd 0) zL (zX (vO (eC (.int 1)))) [some (.val (tx (zp 10 ls++[10])))]=.ok (tx (zp 10 ls)):=by
  have e1:zX (vO (eC (.int 1))) [some (.val (tx (zp 10 ls++[10])))]=.ok (some (-1)):=rfl
  rw[ZH,zo (d:=tx (zp 10 ls++[10])) rfl,Rs.bind_ok,Z9,Rs.bind_ok,e1,Rs.bind_ok]
  show(if _ then _ else _)=_
  rw[if_pos (by rw[ym,sizeLine_eq];simp;lia),uS _ (by simp)]
  simp[tx]
 have hsp:=vW 10 ls hn hf
 have hD:yO (tx (zp 10 ls)) [.str "\n"]=.ok (.lst (ls.map tx)):=by
  rw[en]
  show(if _ then _ else _)=_
  rw[if_pos ⟨by show 0<1;lia,by rw[ym,sizeLine_eq];lia,by rw[hsp,sizeLine_eq];simp;lia⟩,hsp,map_map]
  rfl
 unfold yx
 rw[yH,mt1 hs rfl rfl hD];rfl
noncomputable def yP:List (List Nat)→Option (List Row)
 |[]=>some []
 |l::r=>match vc l with
  |none=>none
  |some p=>(yP r).map (p :: ·)
theorem ZZ:∀{ls:List (List Nat)} {R:List Row},yP ls=some R→ls=R.map zU∧∀p∈R,xi p
 |[],R,h=>by cases h;exact⟨rfl,by simp⟩
 |l::r,R,h=>by
  unfold yP at h
  cases q:vc l with
  |none=>rw[q] at h;cases h
  |some p=>
   rw[q] at h
   simp only at h
   cases q2:yP r with
   |none=>rw[q2] at h;cases h
   |some S=>
    rw[q2] at h
    cases h
    obtain⟨e1,e2⟩:=V7 q
    obtain⟨i1,i2⟩:=ZZ q2
    refine⟨by rw[map_cons,← e1,← i1],fun y hy=>?_⟩
    rcases mem_cons.mp hy with z|z
    ·rw[z];exact e2
    ·exact i2 y z
theorem j4:∀(ls:List (List Nat)),(∀l∈ls,l.length≤1000)→xB (gNm 0) (wB z6 (za (zd 0) zh)) [none] (ls.map tx)=match yP ls with
  |some R=>.ok (R.map zN)
  |none=>.ex "NoText" := by
 intro l_
 induction l_ with
 |nil=>
  rintro _
  exact rfl
 |cons l r ih_=>
  rintro h
  have ih:=ih_ fun y hy=>h y (mem_cons_of_mem _ hy)
  rw[map_cons,xB]
  have e1:gNm 0 (tx l) [none]=.ok [some (.val (tx l))]:=rfl
  have e2:wB z6 (za (zd 0) zh) [some (.val (tx l))]=z6 [tx l]:=rfl
  rw[e1]
  simp only
  rw[e2,Jw l (h l (mem_cons_self ..)),ih,yP]
  cases vc l with
  |none=>rfl
  |some p=>
   simp only
   cases yP r with
   |none=>rfl
   |some R=>rfl
noncomputable def jA(r:Rs D):Rs D:=match r with
 |.ok d=>match YE d with
  |some ds=>if ds.length≤sizeLine then (xB (gNm 0) (wB z6 (za (zd 0) zh)) [none] ds).bind fun xs=>.ok (.lst xs) else .no
  |none=>.no
 |.ex c=>.ex c
 |.no=>.no
theorem uX(t:List Nat):yz [tx t]=jA (zT [tx t]):=by
 have st:zR 1 [tx t]=[some (.val (tx t))]:=rfl
 have e2:Z1 1 [] (wB zT (za (zd 0) zh)) (gNm 0) (wB z6 (za (zd 0) zh)) [some (.val (tx t))]=jA (zT [tx t]):=rfl
 unfold yz Vw
 rw[yh,st,Y3,e2]
 cases jA (zT [tx t]) <;> rfl
theorem Z0:yz [tx []]=.ok (.lst []):=by
 rw[uX,XS]
 unfold jA
 simp only[YE]
 rw[if_pos (show([]:List D).length≤sizeLine from zero_le _)];rfl
theorem Wq(u:List Nat)(d:Nat)(h:d≠10):yz [tx (u++[d])]=.ex "NoText" := by
 rw[uX,jZ,if_neg h];rfl
theorem jS(ls:List (List Nat))(hn:ls≠[])(hf:∀l∈ls,10∉l)(hz:(zp 10 ls).length≤999)(hc:ls.length≤1000)(hl:∀l∈ls,l.length≤1000):yz [tx (zp 10 ls++[10])]=match yP ls with
  |some R=>.ok (.lst (R.map zN))
  |none=>.ex "NoText" := by
 rw[uX,YG ls hn hf hz hc]
 unfold jA
 simp only[YE]
 rw[if_pos (by rw[sizeLine_eq];simp;lia),j4 ls hl]
 cases yP ls <;> rfl
theorem jW(l:List Nat)(h:∀c∈l,c<128):okD (.lst (l.map zy))=true:=by
 have a:∀l:List Nat,plainDs (l.map zy)=true:=fun l=>by
  induction l with
  |nil=>rfl
  |cons a r ih=>simp[plainDs,xc,zy,ih]
 have b:∀l:List Nat,(∀c∈l,c<128)→PyData.canLayAll0 (toPys (l.map zy))=true:=fun l=>by
  induction l with
  |nil=>intro _;rfl
  |cons a r ih=>
   intro h
   have h1:=h a (mem_cons_self ..)
   have h2:PyData.strOk ⟨#[a]⟩=true:=by simp[PyData.strOk];lia
   simp[toPys,xj,zy,PyData.canLayAll0,PyData.canLay0,h2,ih fun c hc=>h c (mem_cons_of_mem _ hc)]
 have c:∀l:List Nat,PyData.depthAll (toPys (l.map zy))=0:=fun l=>by
  induction l with
  |nil=>rfl
  |cons a r ih=>simp[toPys,xj,zy,PyData.depthAll,PyData.depth,ih]
 simp[okD,xc,xj,PyData.canLay0,PyData.depth,a,b l h,c]
theorem Us:okD (.lst [])=true:=by decide
theorem eqvAll_nil(l:List PyData):PyData.eqvAll l []=l.isEmpty:=by cases l <;> simp[PyData.eqvAll]
theorem UX(ds:List D):xR (.lst ds) (.lst [])=ds.isEmpty:=by
 simp only[xR,xj,toPys,PyData.eqv,eqvAll_nil]
 cases ds <;> rfl
theorem WY(ds:List D)(h:okD (.lst ds)=true):neD (.lst ds) (.lst [])=.ok (.bl (!ds.isEmpty)):=by
 simp only[neD,h,Us,and_self,if_true,UX]
noncomputable abbrev ix5(k:Int):FE:=eOp ixD (zd 5) (eC (.int k))
noncomputable def Yc:FT:=(wc (FD.tB (eOp neD (yn y8 (za (zd 5) zh)) (eC (.int 2)))) (wc (FD.tB (eOp eqD (ix5 0) (eC (.str "")))) (wc (xS (FD.tB (eOp neD (ix5 0) (eC (.str "0")))) (FD.tB (eOp eqD (eOp ixD (ix5 0) (eC (.int 0))) (eC (.str "0"))))) (FD.tB (eOp gtD (yn y8 (za (ix5 0) zh)) (eC (.int 6)))))))
noncomputable def W8:FT:=(wc (FD.tB (eOp neD (fun τ=>((yQ 1 [] (xz (ix5 0)) (gNm 0) (FD.tB (eOp x9 (zd 0) (eC (.str "0123456789")))) (zd 0)) τ).bind fun ds=>.ok (.lst ds)) (y9 zh))) (wx (FD.tB (uf leD leD (eC (.int 1)) (yn y8 (za (ix5 1) zh)) (eC (.int 24))))))
noncomputable def W7:FT:=(FD.tB (eOp neD (fun τ=>((yQ 1 [1] (xz (ix5 1)) (gNm 0) (FD.tB (eOp x9 (zd 0) (zd 1))) (zd 0)) τ).bind fun ds=>.ok (.lst ds)) (y9 zh)))
noncomputable def lawS:FS:=(VX 2 (Yi (za (ix5 1) (za (yn uo (za (ix5 0) zh)) zh))))
noncomputable def UL:FS:=(zM (y7 5 (eMt "str" yO (zd 4) (za (eC (.str " ")) zh)))
  (zM (sIf Yc (yB (eC .non)) yg)
  (zM (sIf W8 (yB (eC .non)) yg)
  (zM (sIf W7 (yB (eC .non)) yg) lawS))))
noncomputable abbrev LTS:D:=.str "abcdefghijklmnopqrstuvwxyzABCDEFGHIJKLMNOPQRSTUVWXYZ0123456789_-./"
noncomputable abbrev T5(t:List Nat)(acc:List Row)(s3:Option Sl)(l:List Nat)(ws:List (List Nat)):DS:=[some (.val (tx t)),some (.val LTS),some (.own (acc.map zN)),s3,some (.val (tx l)),some (.val (.lst (ws.map tx)))]
section
variable{t:List Nat}{acc:List Row}{s3:Option Sl}{l a b:List Nat}
theorem v5{ws:List (List Nat)}:zd 5 (T5 t acc s3 l ws)=.ok (.lst (ws.map tx)):=rfl
theorem i50:ix5 0 (T5 t acc s3 l [a,b])=.ok (tx a):=op2 v5 rfl (Zw _ 0 _ rfl)
theorem i51:ix5 1 (T5 t acc s3 l [a,b])=.ok (tx b):=op2 v5 rfl (Zw _ 1 _ rfl)
theorem len5{ws:List (List Nat)}(h:ws.length≤1000):yn y8 (za (zd 5) zh) (T5 t acc s3 l ws)=.ok (.int (ws.length:Int)):=by
 refine vR v5 ?_
 show Rs.ok (D.int ((ws.map tx).length:Int))=_
 rw[length_map]
theorem Xg{ws:List (List Nat)}(h:ws.length≤1000)(hn:ws.length≠2):Yc (T5 t acc s3 l ws)=.ok true:=by
 refine WQ (yt (op2 (len5 h) rfl ?_))
 rw[neD_i]
 congr 2
 simp only[Bool.not_eq_true',beq_eq_false_iff_ne]
 lia
theorem UK(ha:a.length≤1000):Yc (T5 t acc s3 l [a,b])=.ok (!(decide (1≤a.length∧a.length≤6) && !(decide (a[0]?=some 48)&&decide (1<a.length)))):=by
 have h1:FD.tB (eOp neD (yn y8 (za (zd 5) zh)) (eC (.int 2))) (T5 t acc s3 l [a,b])=.ok false:=yt (op2 (len5 (by simp)) rfl rfl)
 have e0:("" : Str)=(⟨([]:List Nat).toArray⟩:Str):=by decide +kernel
 have e48:("0" : Str)=(⟨#[48]⟩:Str):=by decide +kernel
 have h2:FD.tB (eOp eqD (ix5 0) (eC (.str ""))) (T5 t acc s3 l [a,b])=.ok (decide (a=[])):=by
  refine yt (op2 i50 rfl ?_)
  rw[e0];exact jJ a []
 have hl:=uO a ha
 unfold Yc
 refine Z6 h1 ?_
 by_cases hz:a=[]
 ·rw[decide_eq_true hz] at h2
  rw[WQ h2]
  subst hz;rfl
 ·rw[decide_eq_false hz] at h2
  refine Z6 h2 ?_
  have hp:0<a.length:=List.length_pos_iff.mpr hz
  obtain⟨c,hc⟩:∃c,a[0]?=some c:=⟨a[0],getElem?_eq_getElem hp⟩
  have h3:FD.tB (eOp neD (ix5 0) (eC (.str "0"))) (T5 t acc s3 l [a,b])=.ok (!decide (a=[48])):=by
   refine yt (op2 i50 rfl ?_)
   rw[e48];exact X7 a [48]
  have h4:FD.tB (eOp eqD (eOp ixD (ix5 0) (eC (.int 0))) (eC (.str "0"))) (T5 t acc s3 l [a,b])=.ok (decide ([c]=[48])):=by
   refine yt (op2 (op2 i50 rfl (X8 a 0 c hc ha)) rfl ?_)
   rw[e48];exact jJ [c] [48]
  have h5:FD.tB (eOp gtD (yn y8 (za (ix5 0) zh)) (eC (.int 6))) (T5 t acc s3 l [a,b])=.ok (decide ((6:Int)<a.length)):=yt (op2 (vR i50 hl) rfl Yd)
  rw[Xb (Vz h3 h4) h5,hc]
  congr 1
  have e1:(a=[48])↔(c=48∧a.length=1):=by
   constructor
   ·intro z;subst z;simp at hc;exact⟨hc.symm,rfl⟩
   ·rintro⟨z1,z2⟩
    match a,z2 with
    |[d],_=>simp at hc;rw[hc,z1]
  rw[Bool.eq_iff_iff]
  simp only[Bool.or_eq_true,Bool.and_eq_true,Bool.not_eq_true',decide_eq_true_eq,decide_eq_false_iff_not,Bool.and_eq_false_iff,List.cons.injEq,and_true,Option.some.injEq,Bool.not_eq_false',e1]
  lia
theorem Jf(c:Nat){fe fx:FE}{x:Str}{τ:DS}(h:fe τ=.ok (zy c))(h2:fx τ=.ok (.str x)):FD.tB (eOp x9 fe fx) τ=.ok (!decide (c∈x.cps.toList)):=by
 refine yt (op2 h h2 ?_)
 unfold x9
 simp only[zy]
 rw[Jk,jN];rfl
theorem UJ(ha:a.length≤1000)(hb:b.length≤1000)(sa:∀c∈a,c<128):W8 (T5 t acc s3 l [a,b])=.ok (!(a.all yN&&decide (1≤b.length∧b.length≤24))):=by
 have cf:=wO (set:=gNm 0) (ft:=FD.tB (eOp x9 (zd 0) (eC (.str "0123456789")))) (fe:=zd 0) (τ:=[none]) zy zy (fun c=>!yN c) a fun c _=>⟨[some (.val (zy c))],rfl,by
  have:=Jf c (fe:=zd 0) (fx:=eC (.str "0123456789")) (x := "0123456789") (τ:=[some (.val (zy c))]) rfl rfl
  rw[Qi] at this
  exact this,rfl⟩
 have hit:xz (ix5 0) (T5 t acc s3 l [a,b])=.ok (a.map zy):=by
  rw[uI,i50,Rs.bind_ok]
  show Rs.ok (xM ⟨a.toArray⟩)=_
  rw[vx]
 have hle:(a.filter fun c=>!yN c).length≤a.length:=List.length_filter_le _ _
 have ec:=xY (k:=1) (idx:=[]) (τ:=T5 t acc s3 l [a,b]) hit cf (by simp;lia)
 have h1:FD.tB (eOp neD (fun τ=>((yQ 1 [] (xz (ix5 0)) (gNm 0) (FD.tB (eOp x9 (zd 0) (eC (.str "0123456789")))) (zd 0)) τ).bind fun ds=>.ok (.lst ds)) (y9 zh)) (T5 t acc s3 l [a,b])=.ok (!((a.filter fun c=>!yN c).map zy).isEmpty):=by
  refine yt (op2 (a:=.lst ((a.filter fun c=>!yN c).map zy)) (by simp only[ec,Rs.bind_ok]) JW ?_)
  exact WY _ (jW _ fun c hc=>sa c (mem_filter.mp hc).1)
 have hl:=uO b hb
 have h2:FD.tB (uf leD leD (eC (.int 1)) (yn y8 (za (ix5 1) zh)) (eC (.int 24))) (T5 t acc s3 l [a,b])=.ok (decide (1≤b.length∧b.length≤24)):=by
  refine yt ?_
  unfold uf
  rw[wk,Rs.bind_ok,vR i51 hl,Rs.bind_ok,Jh,Rs.bind_ok]
  simp only
  by_cases z:1≤b.length
  ·rw[if_pos (by simp;lia),wk,Rs.bind_ok,Jh]
   congr 2
   rw[Bool.eq_iff_iff]
   simp only[decide_eq_true_eq]
   lia
  ·rw[if_neg (by simp;lia)]
   congr 2
   symm
   apply decide_eq_false
   lia
 unfold W8
 rw[Xb h1 (ZQ h2)]
 congr 1
 have e1:((a.filter fun c=>!yN c).map zy).isEmpty=a.all yN:=by
  rw[Bool.eq_iff_iff,List.isEmpty_iff,List.map_eq_nil_iff,List.filter_eq_nil_iff,all_eq_true]
  simp
 rw[e1]
 cases a.all yN <;> cases decide (1≤b.length∧b.length≤24) <;> rfl
theorem UI(hb:b.length≤1000)(sb:∀c∈b,c<128):W7 (T5 t acc s3 l [a,b])=.ok (!b.all ww):=by
 have cf:=wO (set:=gNm 0) (ft:=FD.tB (eOp x9 (zd 0) (zd 1))) (fe:=zd 0) (τ:=[none,some (.val LTS)]) zy zy (fun c=>!ww c) b fun c _=>⟨[some (.val (zy c)),some (.val LTS)],rfl,by
  have:=Jf c (fe:=zd 0) (fx:=zd 1) (x := "abcdefghijklmnopqrstuvwxyzABCDEFGHIJKLMNOPQRSTUVWXYZ0123456789_-./") (τ:=[some (.val (zy c)),some (.val LTS)]) rfl rfl
  rw[al_l,ns_al] at this
  exact this,rfl⟩
 have hit:xz (ix5 1) (T5 t acc s3 l [a,b])=.ok (b.map zy):=by
  rw[uI,i51,Rs.bind_ok]
  show Rs.ok (xM ⟨b.toArray⟩)=_
  rw[vx]
 have hle:(b.filter fun c=>!ww c).length≤b.length:=List.length_filter_le _ _
 have ec:=xY (k:=1) (idx:=[1]) (τ:=T5 t acc s3 l [a,b]) hit cf (by simp;lia)
 unfold W7
 refine yt (op2 (a:=.lst ((b.filter fun c=>!ww c).map zy)) (by simp only[ec,Rs.bind_ok]) JW ?_)
 rw[WY _ (jW _ fun c hc=>sb c (mem_filter.mp hc).1)]
 congr 3
 rw[Bool.eq_iff_iff,List.isEmpty_iff,List.map_eq_nil_iff,List.filter_eq_nil_iff,all_eq_true]
 simp
end
theorem vX(c:Nat)(l:List Nat):∃ws:List (List Nat),ws≠[]∧(∀w∈ws,c∉w)∧zp c ws=l∧Txt.split ⟨l.toArray⟩ ⟨#[c]⟩=ws.map fun w=>(⟨w.toArray⟩:Str):=by
 have h1:=StrLaws.join_split ⟨l.toArray⟩ ⟨#[c]⟩
 have h2:=StrLaws.split_free ⟨l.toArray⟩ c
 have h3:=split_pos ⟨l.toArray⟩ ⟨#[c]⟩
 generalize Txt.split ⟨l.toArray⟩ ⟨#[c]⟩=ps at h1 h2 h3
 have e:=congrArg (fun s:Str=>s.cps.toList) h1
 simp only[Zy] at e
 refine⟨ps.map fun p=>p.cps.toList,?_,?_,e,?_⟩
 ·intro z
  rw[List.map_eq_nil_iff] at z
  subst z;simp at h3
 ·intro w hw
  obtain⟨p,hp,rfl⟩:=mem_map.mp hw
  exact h2 p hp
 ·rw[map_map]
  conv=>lhs;rw[← map_id ps]
  apply List.map_congr_left
  intro p _
  exact(JY p).symm
theorem wU(c:Nat):∀{ws:List (List Nat)},ws≠[]→ws.length≤(zp c ws).length+1∧∀w∈ws,w.length≤(zp c ws).length∧∀d∈w,d∈zp c ws
 |[],h=>absurd rfl h
 |[x],_=>⟨by simp,fun w hw=>by
  obtain rfl:w=x:=by simpa using hw
  exact⟨le_refl _,fun d hd=>hd⟩⟩
 |x::y::r,_=>by
  obtain⟨i1,i2⟩:=wU c (ws:=y::r) (by simp)
  rw[yW c x (y::r) (by simp)]
  refine⟨by simp only[length_cons,length_append] at i1 ⊢;lia,fun w hw=>?_⟩
  rcases mem_cons.mp hw with z|z
  ·rw[z];exact⟨by simp,fun d hd=>by simp[hd]⟩
  ·obtain⟨j1,j2⟩:=i2 w z
   exact⟨by simp only[length_cons,length_append];lia,fun d hd=>by simp[j2 d hd]⟩
theorem Yk:∀{l:List Nat},32∉l→xX l=none
 |[],_=>rfl
 |c::r,h=>by
  unfold xX
  rw[if_neg (fun z=>h (by simp[z])),Yk (l:=r) fun z=>h (by simp[z])];rfl
theorem ZJ:∀{a b:List Nat},32∉a→xX (a++32::b)=some (a,b)
 |[],b,_=>by show(if (32:Nat)=32 then _ else _)=_;rw[if_pos rfl]
 |c::r,b,h=>by
  show xX (c::(r++32::b))=_
  unfold xX
  rw[if_neg (fun z=>h (by simp[z])),ZJ (a:=r) fun z=>h (by simp[z])];rfl
theorem U4(t l:List Nat)(acc:List Row)(s3 s5:Option Sl)(hl:l.length≤900)(sl:∀c∈l,c<128)(ha:acc.length≤1000):∃s5',UL [some (.val (tx t)),some (.val LTS),some (.own (acc.map zN)),s3,some (.val (tx l)),s5]=match vc l with
  |some p=>.nx [some (.val (tx t)),some (.val LTS),some (.own ((acc++[p]).map zN)),s3,some (.val (tx l)),s5']
  |none=>.rt .non:=by
 obtain⟨ws,hn,hf,hj,hs⟩:=vX 32 l
 obtain⟨k1,k2⟩:=wU 32 hn
 rw[hj] at k1 k2
 have eb:(" " : Str)=(⟨#[32]⟩:Str):=by decide +kernel
 have hD:yO (tx l) [.str " "]=.ok (.lst (ws.map tx)):=by
  rw[eb]
  show(if _ then _ else _)=_
  rw[if_pos ⟨by show 0<1;lia,by rw[ym,sizeLine_eq];lia,by rw[hs,sizeLine_eq];simp;lia⟩,hs,map_map]
  rfl
 have h1:eMt "str" yO (zd 4) (za (eC (.str " ")) zh) [some (.val (tx t)),some (.val LTS),some (.own (acc.map zN)),s3,some (.val (tx l)),s5]=.ok (.lst (ws.map tx)):=mt1 (zo rfl) rfl rfl hD
 refine⟨some (.val (.lst (ws.map tx))),?_⟩
 unfold UL
 rw[zA,xF,h1,Fl.of_ok,zQ]
 show zM (sIf Yc (yB (eC .non)) yg) _ (T5 t acc s3 l ws)=_
 have out:∀{τ:DS} {f:FT} {k:FS},f τ=.ok true→zM (sIf f (yB (eC .non)) yg) k τ=.rt .non:=fun {τ f k} h=>by
  rw[zA,yT,h,Fl.of_ok,if_pos rfl,yH,wk];rfl
 have on:∀{τ:DS} {f:FT} {k:FS},f τ=.ok false→zM (sIf f (yB (eC .non)) yg) k τ=k τ:=fun {τ f k} h=>by
  rw[zA,yT,h,Fl.of_ok,if_neg (by simp),yq,zQ]
 match ws,hn,hf,hj,k1,k2 with
 |[a],_,hf,hj,k1,k2=>
  rw[out (Xg (by simp) (by simp))]
  obtain rfl:a=l:=hj
  unfold vc
  rw[Yk (hf a (by simp))]
 |a::b::c::r,_,hf,hj,k1,k2=>
  rw[out (Xg (by lia) (by simp))]
  have hj:a++32::zp 32 (b::c::r)=l:=hj
  rw[yW 32 b (c::r) (by simp)] at hj
  unfold vc
  rw[← hj,ZJ (hf a (by simp))]
  have:nmB (b++32::zp 32 (c::r))=false:=by
   cases q:nmB (b++32::zp 32 (c::r)) with
   |false=>rfl
   |true=>
    unfold nmB at q
    rw[Bool.and_eq_true,all_eq_true] at q
    exact absurd rfl (YC (q.2 32 (by simp))).2.2
  simp only[this,Bool.false_and]
  rfl
 |[a,b],_,hf,hj,k1,k2=>
  have hj:a++32::b=l:=hj
  have la:=(k2 a (by simp)).1
  have lb:=(k2 b (by simp)).1
  have sa:∀c∈a,c<128:=fun c hc=>sl c ((k2 a (by simp)).2 c hc)
  have sb:∀c∈b,c<128:=fun c hc=>sl c ((k2 b (by simp)).2 c hc)
  have c1:=UK (t:=t) (acc:=acc) (s3:=s3) (l:=l) (a:=a) (b:=b) (by lia)
  have c2:=UJ (t:=t) (acc:=acc) (s3:=s3) (l:=l) (a:=a) (b:=b) (by lia) (by lia) sa
  have c3:=UI (t:=t) (acc:=acc) (s3:=s3) (l:=l) (a:=a) (b:=b) (by lia) sb
  have hp:vc l=if nmB b&&nuB a then some (b,val a) else none:=by
   unfold vc
   rw[← hj,ZJ (hf a (by simp))]
  rw[hp]
  have en:nuB a=(decide (1≤a.length∧a.length≤6)&&(a.all yN && !(decide (a[0]?=some 48)&&decide (1<a.length)))):=rfl
  have em:nmB b=(decide (1≤b.length∧b.length≤24)&&b.all ww):=rfl
  cases x1:(decide (1≤a.length∧a.length≤6) && !(decide (a[0]?=some 48)&&decide (1<a.length))) with
  |false=>
   rw[x1] at c1
   have:nuB a=false:=by
    rw[en]
    revert x1
    cases decide (1≤a.length∧a.length≤6) <;> cases a.all yN <;> simp
   rw[out c1,this,Bool.and_false];rfl
  |true=>
   rw[x1] at c1
   rw[on c1]
   cases x2:(a.all yN&&decide (1≤b.length∧b.length≤24)) with
   |false=>
    rw[x2] at c2
    have:(nmB b&&nuB a)=false:=by
     rw[en,em]
     revert x2
     cases a.all yN <;> cases decide (1≤b.length∧b.length≤24) <;> simp
    rw[out c2,this];rfl
   |true=>
    rw[x2] at c2
    rw[on c2]
    cases x3:b.all ww with
    |false=>
     rw[x3] at c3
     have:nmB b=false:=by rw[em,x3,Bool.and_false]
     rw[out c3,this,Bool.false_and];rfl
    |true=>
     rw[x3] at c3
     rw[on c3]
     rw[Bool.and_eq_true] at x1 x2
     have hnu:nuB a=true:=by rw[en,x1.1,x1.2,x2.1];rfl
     have hnm:nmB b=true:=by rw[em,x2.2,x3];rfl
     rw[hnu,hnm]
     have ht:Yi (za (ix5 1) (za (yn uo (za (ix5 0) zh)) zh)) (T5 t acc s3 l [a,b])=.ok (zN (b,val a)):=tup2 i51 (vR i50 (Vc hnu))
     unfold lawS
     rw[VW,ht]
     have hz:(acc.map zN).length<sizeLine:=by rw[sizeLine_eq,length_map];lia
     simp only[getElem?_cons_zero,getElem?_cons_succ,wJ,Fl.of_ok,if_pos hz,set_cons_succ,set_cons_zero,map_append,map_cons,map_nil,Bool.and_self,if_true]
theorem Xf(t:List Nat)(s3:Option Sl):∀(ls:List (List Nat)) (acc:List Row) (s4 s5:Option Sl),(∀l∈ls,l.length≤900∧∀c∈l,c<128)→acc.length+ls.length≤1000→∃s4' s5',xq (gNm 4) UL (ls.map tx) [some (.val (tx t)),some (.val LTS),some (.own (acc.map zN)),s3,s4,s5]=match yP ls with
  |some R=>.nx [some (.val (tx t)),some (.val LTS),some (.own ((acc++R).map zN)),s3,s4',s5']
  |none=>.rt .non:=by
 intro l_
 induction l_ with
 |nil=>
  rintro acc s4 s5 _ _
  exact⟨s4,s5,by simp[xq,yP]⟩
 |cons l r ih_=>
  rintro acc s4 s5 h hc
  obtain⟨h1,h2⟩:=h l (mem_cons_self ..)
  simp only[length_cons] at hc
  obtain⟨s5',hb⟩:=U4 t l acc s3 s5 h1 h2 (by lia)
  have hset:gNm 4 (tx l) [some (.val (tx t)),some (.val LTS),some (.own (acc.map zN)),s3,s4,s5]=.ok [some (.val (tx t)),some (.val LTS),some (.own (acc.map zN)),s3,some (.val (tx l)),s5]:=rfl
  cases q:vc l with
  |none=>
   rw[q] at hb
   refine⟨s4,s5,?_⟩
   rw[map_cons,xq,hset,Fl.of_ok,yP,q]
   simp only[hb]
  |some p=>
   rw[q] at hb
   obtain⟨s4',s5'',ih⟩:=ih_ (acc++[p]) (some (.val (tx l))) s5' (fun y hy=>h y (mem_cons_of_mem _ hy)) (by simp;lia)
   refine⟨s4',s5'',?_⟩
   rw[map_cons,xq,hset,Fl.of_ok,yP,q]
   simp only[hb,ih]
   cases yP r with
   |none=>rfl
   |some R=>simp
theorem Vr(init:List (List Nat))(z:List Nat):FD.cutD ((init++[z]).map tx) none (some (-1))=init.map tx:=by
 unfold FD.cutD
 rw[HT.sIx_none,List.drop_zero,Nat.sub_zero]
 have:HT.sIx ((init++[z]).map tx).length ((init++[z]).map tx).length (some (-1))=init.length:=by
  unfold HT.sIx
  simp
  lia
 rw[this,map_append,List.take_left' (by simp)]
theorem UM{α:Type}(f:α→D)(l:List α)(a:α):ixD (.lst ((l++[a]).map f)) (.int (-1))=.ok (f a):=by
 refine Xj ?_
 unfold atI ixN
 rw[if_neg (by lia),if_pos (by simp;lia)]
 have:(-1+(((l++[a]).map f).length:Int)).toNat=l.length:=by simp;lia
 show((l++[a]).map f)[(-1+(((l++[a]).map f).length:Int)).toNat]?=_
 rw[this]
 simp
theorem vk(init:List (List Nat))(z:List Nat)(hf:∀l∈init++[z],10∉l)(hl:(zp 10 (init++[z])).length≤900)(sg:∀c∈zp 10 (init++[z]),c<128):z9 [tx (zp 10 (init++[z]))]=match yP init with
  |some R=>if z=[] then .ok (.lst (R.map zN)) else .ok .non
  |none=>.ok .non:=by
 obtain⟨k1,k2⟩:=wU 10 (ws:=init++[z]) (by simp)
 have hs:=vW 10 (init++[z]) (by simp) hf
 generalize ht:zp 10 (init++[z])=t at *
 have kl:(init++[z]).length=init.length+1:=by simp
 have st:zR 6 [tx t]=[some (.val (tx t)),none,none,none,none,none]:=rfl
 have en:("\n" : Str)=(⟨#[10]⟩:Str):=by decide +kernel
 have hD:yO (tx t) [.str "\n"]=.ok (.lst ((init++[z]).map tx)):=by
  rw[en]
  show(if _ then _ else _)=_
  rw[if_pos ⟨by show 0<1;lia,by rw[ym,sizeLine_eq];lia,by rw[hs,sizeLine_eq];simp;lia⟩,hs,map_map]
  rfl
 have h1:eMt "str" yO (zd 0) (za (eC (.str "\n")) zh) [some (.val (tx t)),some (.val LTS),some (.own []),none,none,none]=.ok (.lst ((init++[z]).map tx)):=mt1 (zo rfl) rfl rfl hD
 have q2:ul 2 (fun τ=>(zh τ).bind fun ds=>if ds.length≤sizeLine then .ok ds else .no) [some (.val (tx t)),some (.val LTS),none,none,none,none]=.nx [some (.val (tx t)),some (.val LTS),some (.own []),none,none,none]:=by
  show Fl.of (if ([]:List D).length≤sizeLine then Rs.ok [] else .no) _=_
  rw[if_pos (show([]:List D).length≤sizeLine from zero_le _)];rfl
 have hsl:xz (eSl (zd 3) zL (zX (vO (eC (.int 1))))) [some (.val (tx t)),some (.val LTS),some (.own []),some (.val (.lst ((init++[z]).map tx))),none,none]=.ok (init.map tx):=by
  have e1:zX (vO (eC (.int 1))) [some (.val (tx t)),some (.val LTS),some (.own []),some (.val (.lst ((init++[z]).map tx))),none,none]=.ok (some (-1)):=rfl
  rw[uI,ZH,zo (d:=.lst ((init++[z]).map tx)) rfl,Rs.bind_ok,Z9,Rs.bind_ok,e1,Rs.bind_ok]
  show(Rs.ok (D.lst (FD.cutD ((init++[z]).map tx) none (some (-1))))).bind _=_
  rw[Vr];rfl
 obtain⟨s4,s5,hlp⟩:=Xf t (some (.val (.lst ((init++[z]).map tx)))) init [] none none (fun l h=>⟨by have:=(k2 l (by simp[h])).1;lia,fun c hc=>sg c ((k2 l (by simp[h])).2 c hc)⟩) (by simp;lia)
 have eB:ur=zM (y7 1 (eC LTS)) (zM (ul 2 (fun τ=>(zh τ).bind fun ds=>if ds.length≤sizeLine then .ok ds else .no)) (zM (y7 3 (eMt "str" yO (zd 0) (za (eC (.str "\n")) zh))) (zM (Zj (xz (eSl (zd 3) zL (zX (vO (eC (.int 1)))))) (gNm 4) UL) (fun τ=>yB (eIf (FD.tB (eOp eqD (eOp ixD (zd 3) (vO (eC (.int 1)))) (eC (.str "")))) (zd 2) (eC .non)) (ud τ))))):=rfl
 have sF:∀{fi:FA} {set:FG} {fb:FS} {τ:DS},Zj fi set fb τ=Fl.of (fi τ) fun ds=>xq set fb ds τ:=rfl
 unfold z9
 rw[eB,yh,st,zA,xF,wk,Fl.of_ok,zQ]
 show vL (zM (ul 2 _) _ [some (.val (tx t)),some (.val LTS),none,none,none,none])=_
 rw[zA,q2,zQ,zA,xF,h1,Fl.of_ok,zQ]
 show vL (zM (Zj _ _ _) _ [some (.val (tx t)),some (.val LTS),some (.own []),some (.val (.lst ((init++[z]).map tx))),none,none])=_
 rw[zA,sF,hsl,Fl.of_ok]
 rw[show([]:List D)=([]:List Row).map zN from rfl,hlp]
 cases yP init with
 |none=>rfl
 |some R=>
  simp only
  rw[zQ,nil_append]
  have e0:("" : Str)=(⟨([]:List Nat).toArray⟩:Str):=by decide +kernel
  have fz:ud [some (.val (tx t)),some (.val LTS),some (.own (R.map zN)),some (.val (.lst ((init++[z]).map tx))),s4,s5]=[some (.val (tx t)),some (.val LTS),some (.val (.lst (R.map zN))),some (.val (.lst ((init++[z]).map tx))),Vh s4,Vh s5]:=rfl
  have tt:FD.tB (eOp eqD (eOp ixD (zd 3) (vO (eC (.int 1)))) (eC (.str ""))) [some (.val (tx t)),some (.val LTS),some (.val (.lst (R.map zN))),some (.val (.lst ((init++[z]).map tx))),Vh s4,Vh s5]=.ok (decide (z=[])):=by
   refine yt (op2 (op2 (zo rfl) (b:=.int (-1)) rfl (UM tx init z)) rfl ?_)
   rw[e0];exact jJ z []
  show vL (yB _ (ud _))=_
  rw[fz,yH,Ql,tt,Rs.bind_ok]
  by_cases hz:z=[]
  ·rw[if_pos (by simpa using hz),if_pos hz];rfl
  ·rw[if_neg (by simpa using hz),if_neg hz];rfl
theorem YT(t:List Nat)(d:D)(h:yz [tx t]=.ok d):zJ [tx t]=.ok d:=by
 have st:zR 3 [tx t]=[some (.val (tx t)),none,none]:=rfl
 have e1:YZ yz (za (zd 0) zh) [some (.val (tx t)),none,none]=.rt d:=by
  show(match yz [tx t] with
   |.ok d=>Fl.rt d
   |.ex c=>.rs c [some (.val (tx t)),none,none]
   |.no=>.no)=_
  rw[h]
 unfold zJ wQ
 rw[yh,st,zA]
 unfold uV
 rw[if_pos (show Zu [some (.val (tx t)),none,none]=true from rfl),e1];rfl
theorem YU(t:List Nat)(h:yz [tx t]=.ex "NoText"):zJ [tx t]=.ok .non:=by
 have st:zR 3 [tx t]=[some (.val (tx t)),none,none]:=rfl
 have e1:YZ yz (za (zd 0) zh) [some (.val (tx t)),none,none]=.rs "NoText" [some (.val (tx t)),none,none]:=by
  show(match yz [tx t] with
   |.ok d=>Fl.rt d
   |.ex c=>.rs c [some (.val (tx t)),none,none]
   |.no=>.no)=_
  rw[h]
 unfold zJ wQ
 rw[yh,st,zA]
 unfold uV
 rw[if_pos (show Zu [some (.val (tx t)),none,none]=true from rfl),e1]
 simp only
 rw[if_pos (by decide)]
 rfl
noncomputable def wr:List Row→List Nat
 |[]=>[]
 |p::r=>zU p++10::wr r
theorem jh{x:List Nat}(h:nmB x=true):1≤x.length∧x.length≤24∧∀c∈x,ww c=true:=by
 unfold nmB at h
 rw[Bool.and_eq_true,all_eq_true,decide_eq_true_eq] at h
 exact⟨h.1.1,h.1.2,h.2⟩
theorem jk{p:Row}(h:xi p):(zU p).length≤31:=by
 obtain⟨h1,h2,h3⟩:=h
 have a:=jh h1
 have b:=vg h2
 simp only[zU,length_append,length_cons];lia
theorem Zc:∀{R:List Row},(∀p∈R,xi p)→(wr R).length≤32*R.length
 |[],_=>by simp[wr]
 |p::r,h=>by
  have:=jk (h p (mem_cons_self ..))
  have ih:=Zc (R:=r) fun q hq=>h q (mem_cons_of_mem _ hq)
  simp only[wr,length_append,length_cons];lia
theorem Zx{p:Row}(h:xi p):∀c∈zU p,c<128∧c≠10:=by
 obtain⟨h1,h2,h3⟩:=h
 intro c hc
 simp only[zU,mem_append,mem_cons] at hc
 rcases hc with z|z|z
 ·have:=ZF ((vg h2).2.1 c z);lia
 ·lia
 ·have:=YC ((jh h1).2.2 c z);lia
theorem Ja:∀{R:List Row},(∀p∈R,xi p)→∀c∈wr R,c<128
 |[],_,c,hc=>by cases hc
 |p::r,h,c,hc=>by
  simp only[wr,mem_append,mem_cons] at hc
  rcases hc with z|z|z
  ·exact(Zx (h p (mem_cons_self ..)) c z).1
  ·lia
  ·exact Ja (fun q hq=>h q (mem_cons_of_mem _ hq)) c z
noncomputable def jnE:FE:=(Xq (w5 (eFv (zd 1)) (w5 (eC (.str " ")) (w5 (eFv (zd 0)) (w5 (eC (.str "\n")) UP)))))
theorem W2{n:Nat}(h:n<1000000):(n:Int).natAbs.log2<1920:=by
 rw[Int.natAbs_natCast]
 by_cases z:n=0
 ·subst z;decide
 ·exact(Nat.log2_lt z).mpr (lt_of_lt_of_le h (le_trans (show 1000000≤2 ^ 20 by decide) (Nat.pow_le_pow_right (by decide) (by decide))))
theorem VO(x y:List Nat):(⟨x.toArray⟩:Str)++(⟨y.toArray⟩:Str)=⟨(x++y).toArray⟩:=by
 show Str.mk _=_
 simp
theorem jn_ok(p:Row)(h:xi p):jnE [some (.val (tx p.1)),some (.val (.int (p.2:Int)))]=.ok (tx (zU p++[10])):=by
 obtain⟨h1,h2,h3⟩:=h
 obtain⟨hd,_⟩:=vg h2
 obtain⟨m1,m2,_⟩:=jh h1
 have f1:eFv (zd 1) [some (.val (tx p.1)),some (.val (.int (p.2:Int)))]=.ok (.str ⟨(wM p.2).toArray⟩):=by
  unfold eFv
  rw[zo (d:=.int (p.2:Int)) rfl,Rs.bind_ok]
  show(if _ then _ else _)=_
  rw[if_pos (W2 h3),jf]
 have f2:eFv (zd 0) [some (.val (tx p.1)),some (.val (.int (p.2:Int)))]=.ok (.str ⟨p.1.toArray⟩):=by
  unfold eFv
  rw[zo (d:=tx p.1) rfl,Rs.bind_ok]
  show(if _ then _ else _)=_
  rw[if_pos (by rw[sizeLine_eq,ym];lia)]
 have e0:Str.empty=(⟨([]:List Nat).toArray⟩:Str):=rfl
 have eb:(" " : Str)=(⟨([32]:List Nat).toArray⟩:Str):=by decide +kernel
 have en:("\n" : Str)=(⟨([10]:List Nat).toArray⟩:Str):=by decide +kernel
 unfold jnE Xq w5 UP
 simp only[f1,f2,wk,Rs.bind_ok,Wi,e0,eb,en,VO,ym,nil_append,length_append,length_cons,length_nil]
 rw[if_pos (by rw[sizeLine_eq];lia),if_pos (by rw[sizeLine_eq];lia),if_pos (by rw[sizeLine_eq];lia),if_pos (by rw[sizeLine_eq];lia),if_pos (by rw[sizeLine_eq];lia),Rs.bind_ok]
 simp[tx,zU]
theorem Zg:∀l:List (List Nat),xL (l.map tx)=some (l.map fun x=>(⟨x.toArray⟩:Str)):=by
 intro l_
 induction l_ with
 |nil=>
  exact rfl
 |cons x r ih_=>
  simp[xL,tx,ih_]
theorem Qh:∀(ps:List (List Nat)),(Txt.join (⟨#[]⟩:Str) (ps.map fun x=>(⟨x.toArray⟩:Str))).cps.toList=ps.flatten:=fun ps=>by
 unfold Txt.join
 rw[StrLaws.glued_eq_join]
 have go:∀ps:List (List Nat),(Str.join (⟨#[]⟩:Str) (ps.map fun x=>(⟨x.toArray⟩:Str))).cps.toList=ps.flatten:=fun ps=>by
  induction ps with
  |nil=>rw[map_nil,Str.join.eq_def];rfl
  |cons x r ih=>
   cases r with
   |nil=>rw[map_cons,map_nil,Str.join.eq_def];simp
   |cons y s=>
    rw[map_cons,map_cons,Str.join.eq_def]
    show((⟨x.toArray⟩:Str)++(⟨#[]⟩:Str)++Str.join ⟨#[]⟩ ((⟨y.toArray⟩:Str)::s.map fun x=>(⟨x.toArray⟩:Str))).cps.toList=_
    rw[map_cons] at ih
    rw[Xu,Xu,ih]
    simp
 exact go ps
theorem Ze:∀R:List Row,(R.map fun p=>zU p++[10]).flatten=wr R:=by
 intro l_
 induction l_ with
 |nil=>
  exact rfl
 |cons p r ih_=>
  simp[wr,ih_]
theorem join_rows(R:List Row)(hl:R.length≤1000)(h:∀p∈R,xi p):wH (.str "") [.lst ((R.map fun p=>zU p++[10]).map tx)]=.ok (tx (wr R)):=by
 show(match xL ((R.map fun p=>zU p++[10]).map tx) with|some (ys:List Str)=>if (ys.map (fun (y:Str)=>y.length)).sum+ys.length*Str.length "" ≤ 16777216 then Rs.ok (D.str (Txt.join "" ys)) else .no|none=>.no)=_
 rw[Zg]
 show(if _ then _ else _)=_
 have e1:("" : Str)=(⟨#[]⟩:Str):=by decide +kernel
 rw[e1,if_pos]
 ·have:=Qh (R.map fun p=>zU p++[10])
  rw[Ze] at this
  refine congrArg (fun z=>Rs.ok (D.str z)) (vV ?_)
  rw[this]
 ·have e2:(((R.map fun p=>zU p++[10]).map fun x=>(⟨x.toArray⟩:Str)).map fun x=>x.length).sum=(wr R).length:=by
   rw[← Ze R,List.length_flatten,map_map]
   congr 1
   try (apply List.map_congr_left;intro x _;exact ym x)
  have e3:Str.length ⟨#[]⟩=0:=rfl
  have:=Zc h
  rw[e2,e3];lia
theorem uM(R:List Row)(hl:R.length≤1000)(h:∀p∈R,xi p):yF [.lst (R.map zN)]=.ok (tx (wr R)):=by
 have st:zR 1 [D.lst (R.map zN)]=[some (.val (.lst (R.map zN)))]:=rfl
 have cm:=wN (set:=gPr 0 1) (fe:=jnE) (τ:=[none,none]) zN tx (fun p=>zU p++[10]) R fun p hp=>⟨[some (.val (tx p.1)),some (.val (.int (p.2:Int)))],rfl,jn_ok p (h p hp)⟩
 have ec:=xY (k:=2) (idx:=[]) (fi:=xz (zd 0)) (τ:=[some (.val (.lst (R.map zN)))]) (ds:=R.map zN) rfl cm (by simp;lia)
 unfold jnE at ec
 unfold yF Za
 rw[yh,st,yH,mt1 (o:=.str "") (a:=.lst ((R.map fun p=>zU p++[10]).map tx)) (r:=.ok (tx (wr R))) rfl rfl (by simp only[ec,Rs.bind_ok]) (join_rows R hl h)]
 rfl
theorem jQ:∀(R:List Row),(∀p∈R,xi p)→plainDs (R.map zN)=true∧PyData.canLayAll0 (toPys (R.map zN))=true∧PyData.depthAll (toPys (R.map zN))≤1:=by
 intro l_
 induction l_ with
 |nil=>
  rintro _
  exact⟨rfl,rfl,by decide⟩
 |cons p r ih_=>
  rintro h
  obtain⟨a,b,c⟩:=ih_ fun q hq=>h q (mem_cons_of_mem _ hq)
  have hp:=h p (mem_cons_self ..)
  have h2:PyData.strOk ⟨p.1.toArray⟩=true:=by
   simp[PyData.strOk]
   intro c hc
   have:=YC ((jh hp.1).2.2 c hc)
   lia
  refine⟨by simp[plainDs,xc,zN,tx,a],by simp[toPys,xj,zN,tx,PyData.canLayAll0,PyData.canLay0,h2,b],?_⟩
  simp only[map_cons,toPys,zN,tx,xj,PyData.depthAll,PyData.depth]
  lia
theorem Wo(R:List Row)(h:∀p∈R,xi p):okD (.lst (R.map zN))=true:=by
 obtain⟨a,b,c⟩:=jQ R h
 simp only[okD,xc,xj,PyData.canLay0,PyData.depth,a,b,Bool.true_and,Bool.and_true,decide_eq_true_eq]
 first|lia | (simp;lia) | exact⟨trivial,by lia⟩
theorem ZY:∀(R:List Row),PyData.eqvAll (toPys (R.map zN)) (toPys (R.map zN))=true:=by
 intro l_
 induction l_ with
 |nil=>
  simp[toPys,PyData.eqvAll]
 |cons p r ih_=>
  have ih:=ih_
  simp[map_cons,toPys,zN,tx,xj,PyData.eqvAll,PyData.eqv,ih]
theorem ZX(R:List Row)(h1:∀p∈R,xi p):neD (.lst (R.map zN)) (.lst (R.map zN))=.ok (.bl false):=by
 simp only[neD,Wo R h1,and_self,if_true,xR,xj,PyData.eqv,ZY,Bool.not_true]
theorem Zd:∀(R:List Row),R≠[]→wr R=zp 10 (R.map zU)++[10]
 |[],h=>absurd rfl h
 |[p],_=>by simp[wr,zp]
 |p::q::r,_=>by
  have ih:=Zd (q::r) (by simp)
  rw[wr,ih]
  show _=zp 10 (zU p::(q::r).map zU)++[10]
  rw[yW 10 (zU p) ((q::r).map zU) (by simp)]
  simp
theorem each(t:List Nat)(hl:t.length≤900)(sg:∀c∈t,c<128):(zJ [tx t]=.ok .non∧z9 [tx t]=.ok .non) ∨
  ∃R:List Row,R.length≤1000∧(∀p∈R,xi p)∧zJ [tx t]=.ok (.lst (R.map zN))∧z9 [tx t]=.ok (.lst (R.map zN))∧wr R=t:=by
 by_cases ht:t=[]
 ·subst ht
  refine .inr ⟨[],by simp,by simp,YT [] _ Z0,?_,rfl⟩
  have:=vk [] [] (by simp) (by simp[zp]) (by simp[zp])
  simpa[zp,yP] using this
 obtain⟨u,d,rfl⟩:∃u d,t=u++[d]:=⟨t.dropLast,t.getLast ht,(List.dropLast_concat_getLast ht).symm⟩
 by_cases hd:d=10
 ·subst hd
  obtain⟨ls,hn,hf,hj,_⟩:=vX 10 u
  obtain⟨k1,k2⟩:=wU 10 hn
  have hu:u.length≤899:=by simp at hl;lia
  rw[hj] at k1 k2
  have r1:=jS ls hn hf (by rw[hj];lia) (by lia) (fun l h=>by have:=(k2 l h).1;lia)
  have e:zp 10 (ls++[[]])=u++[10]:=by rw[vm 10 ls hn,hj]
  have r2:=vk ls [] (fun l h=>by
   rcases mem_append.mp h with z|z
   ·exact hf l z
   ·obtain rfl:l=[]:=by simpa using z
    simp) (by rw[e];exact hl) (by rw[e];exact sg)
  rw[e] at r2
  rw[hj] at r1
  cases q:yP ls with
  |none=>
   rw[q] at r1 r2
   exact .inl ⟨YU _ r1,r2⟩
  |some R=>
   rw[q] at r1 r2
   simp only[if_true] at r2
   obtain⟨q1,q2⟩:=ZZ q
   have hlen:=congrArg List.length q1
   rw[length_map] at hlen
   refine .inr ⟨R,by lia,q2,YT _ _ r1,r2,?_⟩
   rw[Zd R (fun z=>hn (by rw[q1,z];rfl)),← q1,hj]
 ·have r1:=Wq u d hd
  obtain⟨ws,hn,hf,hj,_⟩:=vX 10 (u++[d])
  obtain⟨init,z,rfl⟩:∃init z,ws=init++[z]:=⟨ws.dropLast,ws.getLast hn,(List.dropLast_concat_getLast hn).symm⟩
  have r2:=vk init z hf (by rw[hj];exact hl) (by rw[hj];exact sg)
  rw[hj] at r2
  have hz:z≠[]:=fun hz=>by
   subst hz
   by_cases hi:init=[]
   ·subst hi
    simp[zp] at hj
   ·rw[vm 10 init hi] at hj
    have:=List.append_inj_right' hj rfl
    simp at this
    exact hd this.symm
  refine .inl ⟨YU _ r1,?_⟩
  rw[r2]
  cases yP init with
  |none=>rfl
  |some R=>simp only;rw[if_neg hz]
theorem Xw(x:List Nat)(l u:Option Int):∃v:List Nat,Txt.slice ⟨x.toArray⟩ l u=⟨v.toArray⟩∧v.length≤x.length∧∀c∈v,c∈x:=by
 refine⟨(Txt.slice ⟨x.toArray⟩ l u).cps.toList,(JY _).symm,?_,fun c hc=>?_⟩
 ·have:=Txt.slice_le ⟨x.toArray⟩ l u
  rw[ym] at this
  show(Txt.slice ⟨x.toArray⟩ l u).cps.toList.length≤_
  rw[Array.length_toList]
  exact this
 ·unfold Txt.slice at hc
  split at hc
  ·simpa using hc
  ·simp only[List.mem_filterMap] at hc
   obtain⟨i,_,hi⟩:=hc
   have:=Array.mem_of_getElem? hi
   simpa using this
theorem Vn{m n:Nat}(hm:m<1000000)(hn:n<1000000)(h:wM m=wM n):m=n:=by
 have a:=PySem.W.KIN.num_reads (n:=(m:Int)) (by lia) (by lia)
 have b:=PySem.W.KIN.num_reads (n:=(n:Int)) (by lia) (by lia)
 rw[jf,h] at a
 rw[jf,a] at b
 injection b with b
 lia
theorem Xz{p:Row}(h:xi p):vc (zU p)=some p:=by
 obtain⟨h1,h2,h3⟩:=h
 obtain⟨_,f,_,e,v⟩:=vg h2
 unfold vc zU
 rw[ZJ fun hc=>by have:=ZF (f 32 hc);lia]
 simp only[h1,h2,Bool.and_self,if_true]
 rw[Vn v h3 e]
theorem um:∀{R:List Row},(∀p∈R,xi p)→yP (R.map zU)=some R
 |[],_=>rfl
 |p::r,h=>by
  rw[map_cons,yP,Xz (h p (mem_cons_self ..))]
  simp only
  rw[um fun q hq=>h q (mem_cons_of_mem _ hq)];rfl
theorem jj{R:List Row}(h:∀p∈R,xi p):∀l∈R.map zU,10∉l:=fun l hl hc=>by
 obtain⟨p,hp,rfl⟩:=mem_map.mp hl
 exact(Zx (h p hp) 10 hc).2 rfl
theorem VY(R:List Row)(hl:R.length≤20)(h:∀p∈R,xi p):yz [tx (wr R)]=.ok (.lst (R.map zN)):=by
 by_cases hR:R=[]
 ·subst hR;exact Z0
 ·have hw:=Zd R hR
  have hlen:=Zc h
  have hz:=congrArg List.length hw
  rw[length_append,List.length_singleton] at hz
  rw[hw,jS (R.map zU) (by simpa using hR) (jj h) (by lia) (by simp;lia) (fun l hl=>by
   obtain⟨p,hp,rfl⟩:=mem_map.mp hl
   have:=jk (h p hp);lia),um h]
theorem YR:∀(R:List Row),wr R=zp 10 (R.map zU++[[]]):=by
 intro l_
 induction l_ with
 |nil=>
  exact rfl
 |cons p r ih_=>
  rw[map_cons,cons_append,yW _ _ _ (by simp),← ih_];rfl
theorem xV(c:Nat)(hc:c<128):∀(ms:List (List Nat)),(∀m∈ms,m.length≤31∧∀d∈m,d<128)→(zp c ms).length≤32*ms.length∧(∀d∈zp c ms,d<128)∧((ms.map fun x=>(⟨x.toArray⟩:Str)).map fun x=>x.length).sum≤31*ms.length
 |[],_=>⟨by simp[zp],by simp[zp],by simp⟩
 |[x],h=>by
  obtain⟨a,b⟩:=h x (by simp)
  refine⟨by simp[zp];lia,by simpa[zp] using b,?_⟩
  simp only[map_cons,map_nil,List.sum_cons,List.sum_nil,ym,length_cons,length_nil]
  lia
 |x::y::r,h=>by
  obtain⟨i1,i2,i3⟩:=xV c hc (y::r) fun m hm=>h m (mem_cons_of_mem _ hm)
  obtain⟨a,b⟩:=h x (by simp)
  rw[yW c x (y::r) (by simp)]
  refine⟨by simp only[length_append,length_cons] at i1 ⊢;lia,fun d hd=>?_,?_⟩
  ·simp only[mem_append,mem_cons] at hd
   rcases hd with z|z|z
   ·exact b d z
   ·lia
   ·exact i2 d z
  ·rw[map_cons,map_cons,List.sum_cons,ym,length_cons]
   simp only[length_cons] at i3 ⊢
   lia
theorem W9(ms:List (List Nat))(hl:ms.length≤100)(h:∀m∈ms,m.length≤31∧∀d∈m,d<128):wH (.str "\n") [.lst (ms.map tx)]=.ok (tx (zp 10 ms)):=by
 obtain⟨_,_,b⟩:=xV 10 (by decide) ms h
 have en:("\n" : Str)=(⟨#[10]⟩:Str):=by decide +kernel
 show(match xL (ms.map tx) with|some (ys:List Str)=>if (ys.map (fun (y:Str)=>y.length)).sum+ys.length*Str.length "\n" ≤ 16777216 then Rs.ok (D.str (Txt.join "\n" ys)) else .no|none=>.no)=_
 rw[Zg]
 show(if _ then _ else _)=_
 have e3:Str.length (⟨#[10]⟩:Str)=1:=rfl
 rw[en,if_pos (by rw[e3,length_map];lia)]
 refine congrArg (fun z=>Rs.ok (D.str z)) (vV ?_)
 unfold Txt.join
 rw[StrLaws.glued_eq_join,Zy,map_map]
 show zp 10 (ms.map _)=zp 10 ms
 congr 1
 conv=>rhs;rw[← map_id ms]
 rfl
noncomputable abbrev evB:FS:=(zM (y7 10 (zD zJ (za (zd 9) zh)))
  (sIf (wc (FD.tB (eOp neD (zd 10) (zD z9 (za (zd 9) zh)))) (xS (FD.tB (eOp ZB (zd 10) (eC .non))) (FD.tB (eOp neD (zD yF (za (zd 10) zh)) (zd 9))))) (yB (eC (.bl false))) yg))
theorem UW(a0 a1 a2 a3 a4 a5 a6 a7 a8 s10:Option Sl)(t:List Nat)(hl:t.length≤900)(sg:∀c∈t,c<128):∃s10',evB [a0,a1,a2,a3,a4,a5,a6,a7,a8,some (.val (tx t)),s10]=.nx [a0,a1,a2,a3,a4,a5,a6,a7,a8,some (.val (tx t)),s10']:=by
 have go:∀d,zJ [tx t]=.ok d→wc (FD.tB (eOp neD (zd 10) (zD z9 (za (zd 9) zh)))) (xS (FD.tB (eOp ZB (zd 10) (eC .non))) (FD.tB (eOp neD (zD yF (za (zd 10) zh)) (zd 9)))) [a0,a1,a2,a3,a4,a5,a6,a7,a8,some (.val (tx t)),some (.val d)]=.ok false →
   evB [a0,a1,a2,a3,a4,a5,a6,a7,a8,some (.val (tx t)),s10]=.nx [a0,a1,a2,a3,a4,a5,a6,a7,a8,some (.val (tx t)),some (.val d)]:=fun d h1 h2=>by
  have e1:zD zJ (za (zd 9) zh) [a0,a1,a2,a3,a4,a5,a6,a7,a8,some (.val (tx t)),s10]=.ok d:=vQ (zo rfl) h1
  unfold evB
  rw[zA,xF,e1,Fl.of_ok,zQ]
  show sIf _ _ _ [a0,a1,a2,a3,a4,a5,a6,a7,a8,some (.val (tx t)),some (.val d)]=_
  rw[yT,h2,Fl.of_ok,if_neg (by simp),yq]
 rcases each t hl sg with ⟨h1,h2⟩|⟨R,lR,oR,h1,h2,h3⟩
 ·exact⟨_,go _ h1 (Z6 (yt (op2 (zo rfl) (vQ (zo rfl) h2) rfl)) (Vy (yt (op2 (zo rfl) rfl rfl))))⟩
 ·refine⟨_,go _ h1 (Z6 (yt (op2 (zo rfl) (vQ (zo rfl) h2) (ZX R oR))) (Vx (yt (op2 (zo rfl) rfl rfl)) (yt (op2 (vQ (zo rfl) (uM R lR oR)) (zo rfl) ?_))))⟩
  rw[h3,X7,decide_eq_true rfl];rfl
theorem Xo(a0 a1 a2 a3 a4 a5 a6 a7 a8:Option Sl):∀(ts:List (List Nat)) (s9 s10:Option Sl),(∀t∈ts,t.length≤900∧∀c∈t,c<128)→∃s9' s10',xq (gNm 9) evB (ts.map tx) [a0,a1,a2,a3,a4,a5,a6,a7,a8,s9,s10]=.nx [a0,a1,a2,a3,a4,a5,a6,a7,a8,s9',s10']:=by
 intro l_
 induction l_ with
 |nil=>
  rintro s9 s10 _
  exact⟨s9,s10,rfl⟩
 |cons t r ih_=>
  rintro s9 s10 h
  obtain⟨h1,h2⟩:=h t (mem_cons_self ..)
  obtain⟨s10',hb⟩:=UW a0 a1 a2 a3 a4 a5 a6 a7 a8 s10 t h1 h2
  obtain⟨s9'',s10'',ih⟩:=ih_ (some (.val (tx t))) s10' fun y hy=>h y (mem_cons_of_mem _ hy)
  refine⟨s9'',s10'',?_⟩
  have hset:gNm 9 (tx t) [a0,a1,a2,a3,a4,a5,a6,a7,a8,s9,s10]=.ok [a0,a1,a2,a3,a4,a5,a6,a7,a8,some (.val (tx t)),s10]:=rfl
  rw[map_cons,xq,hset,Fl.of_ok]
  simp only[hb,ih]
theorem Jp{fa fb:FE}{τ:DS}{a b:D}(h1:fa τ=.ok a)(h2:fb τ=.ok b):za fa (za fb zh) τ=.ok [a,b]:=by
 rw[zC,h1,Rs.bind_ok,zC,h2,Rs.bind_ok,yd,Rs.bind_ok,Rs.bind_ok]
theorem lst2e{fa fb:FE}{τ:DS}{a b:D}(h1:fa τ=.ok a)(h2:fb τ=.ok b):y9 (za fa (za fb zh)) τ=.ok (.lst [a,b]):=by
 rw[vP,Jp h1 h2,Rs.bind_ok]
 exact if_pos (wn (by simp))
theorem lst3e{fa fb fc:FE}{τ:DS}{a b c:D}(h1:fa τ=.ok a)(h2:fb τ=.ok b)(h3:fc τ=.ok c):y9 (za fa (za fb (za fc zh))) τ=.ok (.lst [a,b,c]):=by
 rw[vP,zC,h1,Rs.bind_ok,Jp h2 h3,Rs.bind_ok,Rs.bind_ok]
 exact if_pos (wn (by simp))
noncomputable def rwE:FE:=Yi (za (zd 1) (za (eOp ixD (y9 (za (eC (.int 0)) (za (eC (.int 7)) (za (eC (.int 10)) (za (eC (.int 999999)) zh))))) (zD zl (za (zd 2) (za (eOp zG (eC (.int 80)) (zd 0)) (za (eC (.int 4)) zh))))) zh))
theorem Qp:∀c∈A18,ww c=true:=by decide +kernel
theorem Uu:∀n∈[0,7,10,999999],nuB (wM n)=true∧n<1000000:=by decide +kernel
theorem Ux{x:List Nat}(h:jB x):nmB x=true:=by
 obtain⟨h1,h2,h3⟩:=h
 unfold nmB
 rw[Bool.and_eq_true,all_eq_true,decide_eq_true_eq]
 exact⟨⟨h1,by lia⟩,fun c hc=>Qp c (h3 c hc)⟩
theorem jP(ns:List Int)(h63:ns.length≤63):∀(L:List (List Nat)) (j:Nat),j+L.length≤1000→(∀x∈L,jB x)→∃R:List Row,R.length=L.length∧(∀p∈R,xi p)∧xt (gPr 0 1) (fun _=>.ok true) rwE [none,none,some (.val (.scr ns))] (yE j (L.map tx))=.ok (R.map zN):=by
 intro l_
 induction l_ with
 |nil=>
  rintro j _ _
  exact⟨[],rfl,by simp,rfl⟩
 |cons x L ih_=>
  rintro j hj hx
  simp only[length_cons] at hj
  obtain⟨R,h1,h2,h3⟩:=ih_ (j+1) (by lia) fun y hy=>hx y (mem_cons_of_mem _ hy)
  have dl:=xH ns (80+(j:Int)) (m:=4) (by decide)
  have hd:=xW ns (80+(j:Int)) 4 h63 (by lia) (by lia) (by decide)
  obtain⟨n,hn⟩:∃n:Nat,yu ns (80+(j:Int)) 4=(n:Int):=⟨(yu ns (80+(j:Int)) 4).toNat,by lia⟩
  rw[hn] at hd dl
  obtain⟨v,hv,hm⟩:∃v:Nat,([D.int 0,.int 7,.int 10,.int 999999]:List D)[n]?=some (.int (v:Int))∧v∈[0,7,10,999999]:=by
   have:n=0∨n=1∨n=2∨n=3:=by lia
   rcases this with rfl|rfl|rfl|rfl
   ·exact⟨0,rfl,by simp⟩
   ·exact⟨7,rfl,by simp⟩
   ·exact⟨10,rfl,by simp⟩
   ·exact⟨999999,rfl,by simp⟩
  obtain⟨n1,n2⟩:=Uu v hm
  refine⟨(x,v)::R,by simp[h1],fun p hp=>?_,?_⟩
  ·rcases mem_cons.mp hp with z|z
   ·rw[z];exact⟨Ux (hx x (mem_cons_self ..)),n1,n2⟩
   ·exact h2 p z
  ·have hl:y9 (za (eC (.int 0)) (za (eC (.int 7)) (za (eC (.int 10)) (za (eC (.int 999999)) zh)))) [some (.val (.int (j:Int))),some (.val (tx x)),some (.val (.scr ns))]=.ok (.lst [.int 0,.int 7,.int 10,.int 999999]):=by
    show(if ([D.int 0,.int 7,.int 10,.int 999999]:List D).length≤sizeLine then Rs.ok (D.lst [.int 0,.int 7,.int 10,.int 999999]) else .no)=_
    exact if_pos (wn (by simp))
   have he:rwE [some (.val (.int (j:Int))),some (.val (tx x)),some (.val (.scr ns))]=.ok (zN (x,v)):=by
    unfold rwE
    exact tup2 (zo rfl) (op2 hl (j5 (zo rfl) (op2 rfl (zo rfl) xD) rfl hd) (Zw _ n _ hv))
   have hset:gPr 0 1 (.tup [.int (j:Int),tx x]) [none,none,some (.val (.scr ns))]=.ok [some (.val (.int (j:Int))),some (.val (tx x)),some (.val (.scr ns))]:=rfl
   rw[map_cons,yE,xt,hset]
   simp only[he,h3,Rs.bind_ok,map_cons]
noncomputable def stE:FE:=(eOp zG (eOp zG (eOp zG (yn ZT (za (zd 1) zh)) (eC (.str " "))) (zd 0)) (eC (.str "\n")))
theorem st_ok(p:Row)(h:xi p):stE [some (.val (tx p.1)),some (.val (.int (p.2:Int)))]=.ok (tx (zU p++[10])):=by
 obtain⟨h1,h2,h3⟩:=h
 obtain⟨hd,_⟩:=vg h2
 obtain⟨m1,m2,_⟩:=jh h1
 have f1:ZT [.int (p.2:Int)]=.ok (tx (wM p.2)):=by
  show(if _ then _ else _)=_
  rw[if_pos (W2 h3),jf];rfl
 have eb:(" " : Str)=(⟨([32]:List Nat).toArray⟩:Str):=by decide +kernel
 have en:("\n" : Str)=(⟨([10]:List Nat).toArray⟩:Str):=by decide +kernel
 unfold stE
 rw[eb,en]
 refine(op2 (op2 (op2 (vR (zo rfl) f1) rfl (wA (wM p.2) [32] (by simp;lia))) (zo rfl) (wA _ p.1 (by simp;lia))) rfl (wA _ [10] (by simp;lia))).trans ?_
 simp[zU]
theorem wm{i:Nat}{fe:FE}{k:FS}{τ:DS}{d:D}(h:fe τ=.ok d):zM (y7 i fe) k τ=k (τ.set i (some (.val d))):=by
 rw[zA,xF,h,Fl.of_ok,zQ]
theorem Jc{f:FT}{a k:FS}{τ:DS}(h:f τ=.ok false):zM (sIf f a yg) k τ=k τ:=by
 rw[zA,yT,h,Fl.of_ok,if_neg (by simp),yq,zQ]
theorem Wk{fe:FE}{fl fh:FO}{τ:DS}{x:List Nat}{l u:Option Int}(h:fe τ=.ok (tx x))(h1:fl τ=.ok l)(h2:fh τ=.ok u)(hx:x.length≤1000):∃v:List Nat,eSl fe fl fh τ=.ok (tx v)∧v.length≤x.length∧∀c∈v,c∈x:=by
 obtain⟨v,e,h3,h4⟩:=Xw x l u
 refine⟨v,?_,h3,h4⟩
 rw[ZH,h,Rs.bind_ok,h1,Rs.bind_ok,h2,Rs.bind_ok]
 show(if _ then _ else _)=_
 rw[if_pos (by rw[ym,sizeLine_eq];lia),e];rfl
theorem YY{fe:FE}{fl fh:FO}{τ:DS}{ls:List (List Nat)}{l u:Option Int}(h:fe τ=.ok (.lst (ls.map tx)))(h1:fl τ=.ok l)(h2:fh τ=.ok u):∃ms:List (List Nat),eSl fe fl fh τ=.ok (.lst (ms.map tx))∧ms.length≤ls.length∧∀m∈ms,m∈ls:=by
 refine⟨(ls.drop (HT.sIx (ls.map tx).length 0 l)).take (HT.sIx (ls.map tx).length (ls.map tx).length u-HT.sIx (ls.map tx).length 0 l),?_,?_,fun m hm=>List.mem_of_mem_drop (List.mem_of_mem_take hm)⟩
 ·rw[ZH,h,Rs.bind_ok,h1,Rs.bind_ok,h2,Rs.bind_ok]
  show Rs.ok (D.lst (FD.cutD (ls.map tx) l u))=_
  unfold FD.cutD
  rw[← List.map_drop,← List.map_take]
 ·rw[List.length_take,List.length_drop];lia
theorem ja{fe:FE}{τ:DS}{i:Int}(h:fe τ=.ok (.int i)):zX fe τ=.ok (some i):=by
 unfold zX;rw[h];rfl
theorem main(ns:List Int)(h63:ns.length≤63):Xe [.scr ns]=.ok (.bl true):=by
 have st:zR 11 [D.scr ns]=[some (.val (.scr ns)),none,none,none,none,none,none,none,none,none,none]:=rfl
 obtain⟨L,hL,lL,oL⟩:=WZ ns 0 5 h63 (by decide) (by decide) (by decide)
 obtain⟨R,lR,oR,hR⟩:=jP ns h63 L 0 (by lia) oL
 have lR5:R.length≤5:=by lia
 have wl:(wr R).length≤160:=by have:=Zc oR;lia
 have ws:=Ja oR
 have e1:zD yA (za (zd 0) (za (eC (.int 0)) (za (eC (.int 5)) zh))) [some (.val (.scr ns)),none,none,none,none,none,none,none,none,none,none]=.ok (.lst (L.map tx)):=j5 (zo rfl) rfl rfl hL
 have hi:iEn (za (zd 1) zh) [some (.val (.scr ns)),some (.val (.lst (L.map tx))),none,none,none,none,none,none,none,none,none]=.ok (yE 0 (L.map tx)):=rfl
 have ec:=xY (k:=2) (idx:=[0]) (τ:=[some (.val (.scr ns)),some (.val (.lst (L.map tx))),none,none,none,none,none,none,none,none,none]) hi hR (by simp;lia)
 have e2:(fun τ=>((yQ 2 [0] (iEn (za (zd 1) zh)) (gPr 0 1) (fun _=>.ok true) rwE) τ).bind fun ds=>.ok (.lst ds):FE) [some (.val (.scr ns)),some (.val (.lst (L.map tx))),none,none,none,none,none,none,none,none,none]=.ok (.lst (R.map zN)):=by simp only[ec,Rs.bind_ok]
 have e3:zD yF (za (zd 2) zh) [some (.val (.scr ns)),some (.val (.lst (L.map tx))),some (.val (.lst (R.map zN))),none,none,none,none,none,none,none,none]=.ok (tx (wr R)):=vQ (zo rfl) (uM R (by lia) oR)
 have cm:=wN (set:=gPr 0 1) (fe:=stE) (τ:=[none,none]) zN tx (fun p=>zU p++[10]) R fun p hp=>⟨[some (.val (tx p.1)),some (.val (.int (p.2:Int)))],rfl,st_ok p (oR p hp)⟩
 have ec2:=xY (k:=2) (idx:=[]) (fi:=xz (zd 2)) (τ:=[some (.val (.scr ns)),some (.val (.lst (L.map tx))),some (.val (.lst (R.map zN))),some (.val (tx (wr R))),none,none,none,none,none,none,none]) (ds:=R.map zN) rfl cm (by simp;lia)
 have t1:FD.tB (eOp neD (zd 3) (eMt "str" wH (eC (.str "")) (za (fun τ=>((yQ 2 [] (xz (zd 2)) (gPr 0 1) (fun _=>.ok true) stE) τ).bind fun ds=>.ok (.lst ds)) zh))) [some (.val (.scr ns)),some (.val (.lst (L.map tx))),some (.val (.lst (R.map zN))),some (.val (tx (wr R))),none,none,none,none,none,none,none]=.ok false:=by
  refine yt (op2 (zo rfl) (mt1 (o:=.str "") (a:=.lst ((R.map fun p=>zU p++[10]).map tx)) rfl rfl (by simp only[ec2,Rs.bind_ok]) (join_rows R (by lia) oR)) ?_)
  rw[X7,decide_eq_true rfl];rfl
 have t2:FD.tB (eOp neD (zD yz (za (zd 3) zh)) (zd 2)) [some (.val (.scr ns)),some (.val (.lst (L.map tx))),some (.val (.lst (R.map zN))),some (.val (tx (wr R))),none,none,none,none,none,none,none]=.ok false:=
  yt (op2 (vQ (zo rfl) (VY R (by lia) oR)) (zo rfl) (ZX R oR))
 have d4:=xH ns 90 (m:=((wr R).length:Int)+1) (by lia)
 obtain⟨at_,ha⟩:∃n:Nat,yu ns 90 (((wr R).length:Int)+1)=(n:Int):=⟨(yu ns 90 (((wr R).length:Int)+1)).toNat,by lia⟩
 have hd4:=xW ns 90 (((wr R).length:Int)+1) h63 (by decide) (by decide) (by lia)
 rw[ha] at hd4 d4
 have e4:zD zl (za (zd 0) (za (eC (.int 90)) (za (eOp zG (yn y8 (za (zd 3) zh)) (eC (.int 1))) zh))) [some (.val (.scr ns)),some (.val (.lst (L.map tx))),some (.val (.lst (R.map zN))),some (.val (tx (wr R))),none,none,none,none,none,none,none]=.ok (.int (at_:Int)):=
  j5 (zo rfl) rfl (op2 (vR (zo rfl) (uO (wr R) (by lia))) rfl xD) hd4
 have es:("0a \n-~1B" : Str)=(⟨([48,97,32,10,45,126,49,66]:List Nat).toArray⟩:Str):=by decide +kernel
 have d5:=xH ns 91 (m:=8) (by decide)
 obtain⟨k5,hk5⟩:∃n:Nat,yu ns 91 8=(n:Int):=⟨(yu ns 91 8).toNat,by lia⟩
 have hd5:=xW ns 91 8 h63 (by decide) (by decide) (by decide)
 rw[hk5] at hd5 d5
 have lt5:k5<([48,97,32,10,45,126,49,66]:List Nat).length:=by show k5<8;lia
 obtain⟨sc,hsc,hs128⟩:∃c,([48,97,32,10,45,126,49,66]:List Nat)[k5]?=some c∧c<128:=⟨_,getElem?_eq_getElem lt5,(show ∀c∈([48,97,32,10,45,126,49,66]:List Nat),c<128 by decide) _ (getElem_mem lt5)⟩
 have e5:eOp ixD (eC (.str "0a \n-~1B")) (zD zl (za (zd 0) (za (eC (.int 91)) (za (eC (.int 8)) zh)))) [some (.val (.scr ns)),some (.val (.lst (L.map tx))),some (.val (.lst (R.map zN))),some (.val (tx (wr R))),some (.val (.int (at_:Int))),none,none,none,none,none,none]=.ok (tx [sc]):=by
  refine op2 rfl (j5 (zo rfl) rfl rfl hd5) ?_
  rw[es]
  exact X8 _ k5 sc hsc (by simp)
 have en:("\n" : Str)=(⟨#[10]⟩:Str):=by decide +kernel
 have hf:∀l∈R.map zU++[[]],10∉l:=fun l hl=>by
  rcases mem_append.mp hl with z|z
  ·exact jj oR l z
  ·obtain rfl:l=[]:=by simpa using z
   simp
 have hln:∀l∈R.map zU++[[]],l.length≤31∧∀c∈l,c<128:=fun l hl=>by
  rcases mem_append.mp hl with z|z
  ·obtain⟨p,hp,rfl⟩:=mem_map.mp z
   exact⟨jk (oR p hp),fun c hc=>(Zx (oR p hp) c hc).1⟩
  ·obtain rfl:l=[]:=by simpa using z
   simp
 have hsp:=vW 10 (R.map zU++[[]]) (by simp) hf
 rw[← YR] at hsp
 generalize hls:R.map zU++[[]]=ls at hf hln hsp
 have lls:ls.length=R.length+1:=by rw[← hls];simp
 have hD:yO (tx (wr R)) [.str "\n"]=.ok (.lst (ls.map tx)):=by
  rw[en]
  show(if _ then _ else _)=_
  rw[if_pos ⟨by show 0<1;lia,by rw[ym,sizeLine_eq];lia,by rw[hsp,sizeLine_eq];simp;lia⟩,hsp,map_map]
  rfl
 have e6:eMt "str" yO (zd 3) (za (eC (.str "\n")) zh) [some (.val (.scr ns)),some (.val (.lst (L.map tx))),some (.val (.lst (R.map zN))),some (.val (tx (wr R))),some (.val (.int (at_:Int))),some (.val (tx [sc])),none,none,none,none,none]=.ok (.lst (ls.map tx)):=mt1 (zo rfl) rfl rfl hD
 have d7:=xH ns 92 (m:=(ls.length:Int)) (by lia)
 obtain⟨one,ho⟩:∃n:Nat,yu ns 92 (ls.length:Int)=(n:Int):=⟨(yu ns 92 (ls.length:Int)).toNat,by lia⟩
 have hd7:=xW ns 92 (ls.length:Int) h63 (by decide) (by decide) (by lia)
 rw[ho] at hd7 d7
 have e7:zD zl (za (zd 0) (za (eC (.int 92)) (za (yn y8 (za (zd 6) zh)) zh))) [some (.val (.scr ns)),some (.val (.lst (L.map tx))),some (.val (.lst (R.map zN))),some (.val (tx (wr R))),some (.val (.int (at_:Int))),some (.val (tx [sc])),some (.val (.lst (ls.map tx))),none,none,none,none]=.ok (.int (one:Int)):=by
  refine j5 (d:=.int (one:Int)) (c:=.int (ls.length:Int)) (zo rfl) rfl (vR (zo rfl) ?_) hd7
  show Rs.ok (D.int ((ls.map tx).length:Int))=_
  rw[length_map]
 generalize h8:([some (.val (.scr ns)),some (.val (.lst (L.map tx))),some (.val (.lst (R.map zN))),some (.val (tx (wr R))),some (.val (.int (at_:Int))),some (.val (tx [sc])),some (.val (.lst (ls.map tx))),some (.val (.int (one:Int))),none,none,none]:DS)=τ8
 have v3:zd 3 τ8=.ok (tx (wr R)):=by rw[← h8];rfl
 have v4:zd 4 τ8=.ok (.int (at_:Int)):=by rw[← h8];rfl
 have v5:zd 5 τ8=.ok (tx [sc]):=by rw[← h8];rfl
 have v41:eOp zG (zd 4) (eC (.int 1)) τ8=.ok (.int ((at_:Int)+1)):=op2 v4 rfl xD
 obtain⟨p1,q1,l1,m1⟩:=Wk (fl:=zL) v3 rfl (ja v4) (by lia)
 obtain⟨p2,q2,l2,m2⟩:=Wk (fh:=zL) v3 (ja v4) rfl (by lia)
 obtain⟨p3,q3,l3,m3⟩:=Wk (fh:=zL) v3 (ja v41) rfl (by lia)
 have e8:y9 (za (eOp zG (eOp zG (eSl (zd 3) zL (zX (zd 4))) (zd 5)) (eSl (zd 3) (zX (zd 4)) zL)) (za (eOp zG (eSl (zd 3) zL (zX (zd 4))) (eSl (zd 3) (zX (eOp zG (zd 4) (eC (.int 1)))) zL)) (za (eOp zG (eOp zG (eSl (zd 3) zL (zX (zd 4))) (zd 5)) (eSl (zd 3) (zX (eOp zG (zd 4) (eC (.int 1)))) zL)) zh))) τ8
   = .ok (.lst [tx (p1++[sc]++p2),tx (p1++p3),tx (p1++[sc]++p3)]):=
  lst3e (op2 (op2 q1 v5 (wA p1 [sc] (by simp;lia))) q2 (wA _ p2 (by simp;lia))) (op2 q1 q3 (wA p1 p3 (by lia))) (op2 (op2 q1 v5 (wA p1 [sc] (by simp;lia))) q3 (wA _ p3 (by simp;lia)))
 generalize h9:([some (.val (.scr ns)),some (.val (.lst (L.map tx))),some (.val (.lst (R.map zN))),some (.val (tx (wr R))),some (.val (.int (at_:Int))),some (.val (tx [sc])),some (.val (.lst (ls.map tx))),some (.val (.int (one:Int))),some (.val (.lst [tx (p1++[sc]++p2),tx (p1++p3),tx (p1++[sc]++p3)])),none,none]:DS)=τ9
 have w6:zd 6 τ9=.ok (.lst (ls.map tx)):=by rw[← h9];rfl
 have w7:zd 7 τ9=.ok (.int (one:Int)):=by rw[← h9];rfl
 have w8:zd 8 τ9=.ok (.lst [tx (p1++[sc]++p2),tx (p1++p3),tx (p1++[sc]++p3)]):=by rw[← h9];rfl
 have w71:eOp zG (zd 7) (eC (.int 1)) τ9=.ok (.int ((one:Int)+1)):=op2 w7 rfl xD
 obtain⟨x1,y1,z1,n1⟩:=YY (fl:=zL) w6 rfl (ja w7)
 obtain⟨x2,y2,z2,n2⟩:=YY (fh:=zL) w6 (ja w71) rfl
 obtain⟨x3,y3,z3,n3⟩:=YY (fl:=zL) w6 rfl (ja w71)
 obtain⟨x4,y4,z4,n4⟩:=YY (fh:=zL) w6 (ja w7) rfl
 have b12:∀m∈x1++x2,m.length≤31∧∀d∈m,d<128:=fun m hm=>(mem_append.mp hm).elim (fun z=>hln m (n1 m z)) fun z=>hln m (n2 m z)
 have b34:∀m∈x3++x4,m.length≤31∧∀d∈m,d<128:=fun m hm=>(mem_append.mp hm).elim (fun z=>hln m (n3 m z)) fun z=>hln m (n4 m z)
 have l12:(x1++x2).length≤12:=by simp;lia
 have l34:(x3++x4).length≤12:=by simp;lia
 have j12:=xV 10 (by decide) (x1++x2) b12
 have j34:=xV 10 (by decide) (x3++x4) b34
 have c12:eOp zG (eSl (zd 6) zL (zX (zd 7))) (eSl (zd 6) (zX (eOp zG (zd 7) (eC (.int 1)))) zL) τ9=.ok (.lst ((x1++x2).map tx)):=by
  rw[op2 y1 y2 (uH _ _ (by simp;lia)),map_append]
 have c34:eOp zG (eSl (zd 6) zL (zX (eOp zG (zd 7) (eC (.int 1))))) (eSl (zd 6) (zX (zd 7)) zL) τ9=.ok (.lst ((x3++x4).map tx)):=by
  rw[op2 y3 y4 (uH _ _ (by simp;lia)),map_append]
 have e9:eOp zG (zd 8) (y9 (za (eMt "str" wH (eC (.str "\n")) (za (eOp zG (eSl (zd 6) zL (zX (zd 7))) (eSl (zd 6) (zX (eOp zG (zd 7) (eC (.int 1)))) zL)) zh)) (za (eMt "str" wH (eC (.str "\n")) (za (eOp zG (eSl (zd 6) zL (zX (eOp zG (zd 7) (eC (.int 1))))) (eSl (zd 6) (zX (zd 7)) zL)) zh)) zh))) τ9
   = .ok (.lst ([tx (p1++[sc]++p2),tx (p1++p3),tx (p1++[sc]++p3)]++[tx (zp 10 (x1++x2)),tx (zp 10 (x3++x4))])):=
  op2 w8 (lst2e (mt1 (o:=.str "\n") rfl rfl c12 (W9 _ (by lia) b12)) (mt1 (o:=.str "\n") rfl rfl c34 (W9 _ (by lia) b34))) (uH _ _ (by simp))
 generalize hA:([some (.val (.scr ns)),some (.val (.lst (L.map tx))),some (.val (.lst (R.map zN))),some (.val (tx (wr R))),some (.val (.int (at_:Int))),some (.val (tx [sc])),some (.val (.lst (ls.map tx))),some (.val (.int (one:Int))),some (.val (.lst ([tx (p1++[sc]++p2),tx (p1++p3),tx (p1++[sc]++p3)]++[tx (zp 10 (x1++x2)),tx (zp 10 (x3++x4))]))),none,none]:DS)=τA
 have u4:zd 4 τA=.ok (.int (at_:Int)):=by rw[← hA];rfl
 have u8:zd 8 τA=.ok (.lst ([tx (p1++[sc]++p2),tx (p1++p3),tx (p1++[sc]++p3)]++[tx (zp 10 (x1++x2)),tx (zp 10 (x3++x4))])):=by rw[← hA];rfl
 have k6:((at_:Int)%6)=((at_%6:Nat):Int):=by lia
 have s6:([D.str "", .str "\n", .str "01 a\n", .str "1 \n", .str "1 a", .str "1234567 a\n"]:List D)=([[],[10],[48,49,32,97,10],[49,32,10],[49,32,97],[49,50,51,52,53,54,55,32,97,10]]:List (List Nat)).map tx:=by
  have i1:("" : Str)=(⟨([]:List Nat).toArray⟩:Str):=by decide +kernel
  have i2:("\n" : Str)=(⟨([10]:List Nat).toArray⟩:Str):=by decide +kernel
  have i3:("01 a\n" : Str)=(⟨([48,49,32,97,10]:List Nat).toArray⟩:Str):=by decide +kernel
  have i4:("1 \n" : Str)=(⟨([49,32,10]:List Nat).toArray⟩:Str):=by decide +kernel
  have i5:("1 a" : Str)=(⟨([49,32,97]:List Nat).toArray⟩:Str):=by decide +kernel
  have i6:("1234567 a\n" : Str)=(⟨([49,50,51,52,53,54,55,32,97,10]:List Nat).toArray⟩:Str):=by decide +kernel
  rw[i1,i2,i3,i4,i5,i6];rfl
 have lt6:at_%6<([[],[10],[48,49,32,97,10],[49,32,10],[49,32,97],[49,50,51,52,53,54,55,32,97,10]]:List (List Nat)).length:=Nat.mod_lt _ (by decide)
 obtain⟨lt,hlt,hlb⟩:∃t,([[],[10],[48,49,32,97,10],[49,32,10],[49,32,97],[49,50,51,52,53,54,55,32,97,10]]:List (List Nat))[at_%6]?=some t∧t.length≤900∧∀c∈t,c<128:=⟨_,getElem?_eq_getElem lt6,(show ∀t∈([[],[10],[48,49,32,97,10],[49,32,10],[49,32,97],[49,50,51,52,53,54,55,32,97,10]]:List (List Nat)),t.length≤900∧∀c∈t,c<128 by decide) _ (getElem_mem lt6)⟩
 have eL6:y9 (za (eC (.str "")) (za (eC (.str "\n")) (za (eC (.str "01 a\n")) (za (eC (.str "1 \n")) (za (eC (.str "1 a")) (za (eC (.str "1234567 a\n")) zh)))))) τA=.ok (.lst [D.str "", .str "\n", .str "01 a\n", .str "1 \n", .str "1 a", .str "1234567 a\n"]):=by
  show(if ([D.str "", .str "\n", .str "01 a\n", .str "1 \n", .str "1 a", .str "1234567 a\n"]:List D).length≤sizeLine then Rs.ok (D.lst [D.str "", .str "\n", .str "01 a\n", .str "1 \n", .str "1 a", .str "1234567 a\n"]) else .no)=_
  exact if_pos (wn (by simp))
 have eix:eOp ixD (y9 (za (eC (.str "")) (za (eC (.str "\n")) (za (eC (.str "01 a\n")) (za (eC (.str "1 \n")) (za (eC (.str "1 a")) (za (eC (.str "1234567 a\n")) zh))))))) (eOp uz (zd 4) (eC (.int 6))) τA=.ok (tx lt):=by
  refine op2 eL6 (op2 u4 rfl (ua (by decide))) ?_
  rw[k6,s6]
  exact Zw _ (at_%6) (tx lt) (by rw[getElem?_map,hlt];rfl)
 have eA:xz (eOp zG (zd 8) (y9 (za (eOp ixD (y9 (za (eC (.str "")) (za (eC (.str "\n")) (za (eC (.str "01 a\n")) (za (eC (.str "1 \n")) (za (eC (.str "1 a")) (za (eC (.str "1234567 a\n")) zh))))))) (eOp uz (zd 4) (eC (.int 6)))) zh))) τA=.ok ([p1++[sc]++p2,p1++p3,p1++[sc]++p3,zp 10 (x1++x2),zp 10 (x3++x4),lt].map tx):=by
  rw[uI,op2 u8 (lst1e eix) (uH _ _ (by simp)),Rs.bind_ok];rfl
 have i1:∀c∈p1,c<128:=fun c hc=>ws c (m1 c hc)
 have i2:∀c∈p2,c<128:=fun c hc=>ws c (m2 c hc)
 have i3:∀c∈p3,c<128:=fun c hc=>ws c (m3 c hc)
 have all:∀t∈[p1++[sc]++p2,p1++p3,p1++[sc]++p3,zp 10 (x1++x2),zp 10 (x3++x4),lt],t.length≤900∧∀c∈t,c<128:=fun t ht=>by
  simp only[mem_cons,not_mem_nil,or_false] at ht
  rcases ht with rfl|rfl|rfl|rfl|rfl|rfl
  ·refine⟨by simp only[length_append,length_cons,length_nil];lia,fun c hc=>?_⟩
   simp only[mem_append,mem_cons,not_mem_nil,or_false] at hc
   rcases hc with (z|z) | z
   ·exact i1 c z
   ·rw[z];exact hs128
   ·exact i2 c z
  ·refine⟨by simp only[length_append];lia,fun c hc=>?_⟩
   rcases mem_append.mp hc with z|z
   ·exact i1 c z
   ·exact i3 c z
  ·refine⟨by simp only[length_append,length_cons,length_nil];lia,fun c hc=>?_⟩
   simp only[mem_append,mem_cons,not_mem_nil,or_false] at hc
   rcases hc with (z|z) | z
   ·exact i1 c z
   ·rw[z];exact hs128
   ·exact i3 c z
  ·exact⟨by lia,j12.2.1⟩
  ·exact⟨by lia,j34.2.1⟩
  ·exact hlb
 obtain⟨s9,s10,hlp⟩:=Xo (some (.val (.scr ns))) (some (.val (.lst (L.map tx)))) (some (.val (.lst (R.map zN)))) (some (.val (tx (wr R)))) (some (.val (.int (at_:Int)))) (some (.val (tx [sc]))) (some (.val (.lst (ls.map tx)))) (some (.val (.int (one:Int)))) (some (.val (.lst ([tx (p1++[sc]++p2),tx (p1++p3),tx (p1++[sc]++p3)]++[tx (zp 10 (x1++x2)),tx (zp 10 (x3++x4))])))) _ none none all
 have sF:∀{fi:FA} {set:FG} {fb:FS} {τ:DS},Zj fi set fb τ=Fl.of (fi τ) fun ds=>xq set fb ds τ:=rfl
 unfold rwE at e2
 unfold stE at t1
 unfold Xe Jo
 rw[yh,st,wm e1]
 simp only[set_cons_succ,set_cons_zero]
 rw[wm e2]
 simp only[set_cons_succ,set_cons_zero]
 rw[wm e3]
 simp only[set_cons_succ,set_cons_zero]
 rw[Jc t1,Jc t2,wm e4]
 simp only[set_cons_succ,set_cons_zero]
 rw[wm e5]
 simp only[set_cons_succ,set_cons_zero]
 rw[wm e6]
 simp only[set_cons_succ,set_cons_zero]
 rw[wm e7]
 simp only[set_cons_succ,set_cons_zero]
 rw[h8,wm e8,← h8]
 simp only[set_cons_succ,set_cons_zero]
 rw[h9,wm e9,← h9]
 simp only[set_cons_succ,set_cons_zero]
 rw[hA,zA,sF,eA,Fl.of_ok,← hA,hlp,zQ,yH,wk]
 rfl
set_option maxHeartbeats 4000000
noncomputable def top(i:Nat):Stmt:=PySem.Challenge.pw_fewfind_k90_texts.main.body.getD i (.Pass ⟨0,0,0,0⟩)
section
variable{P:Program}{w:World}{K:Frag}{mg:Str→Option Value}{base:Heap}
noncomputable abbrev yL:Stmt:=top 22
theorem Zi:zP ["_law_script", "_law_k"] ["_law_script", "_law_k"] (zi yL):=⟨rfl,rfl,rfl,by decide +kernel,rfl,by decide +kernel,by decide +kernel⟩
theorem Zs{f:Addr}{fd:FuncData}(A_:ye K mg "_law_cell" yL f fd)(z_len:mg "len" = none):DefOk P w K mg base "_law_cell" 1 2 ["_law_script", "_law_k"] yY:=by
 refine DefOk.mk (k:=0) A_ Zi rfl (fun _ _ _ _ _ _ us hl=>by obtain⟨_,_,rfl⟩:=lnz2 hl;rfl) (fun cdv A outer s H E hr=>?_) fun _ _ _ h=>h
 exact(zk (yM (zH (wF hr.units) (zb (pv 0)) (xg ze) (z8 _)) (zn (zK (zq wt zg (zb (pv 1))))) zV) (zn (zK (zq zu (yr yZ (zb (pv 0)) (zq wu (zb (pv 1)) (zS xC rfl z_len PySem.boot_len (zc (zb (pv 0)) ze)))) (zq wt zg (zq vI (zb (pv 1)) (zS xC rfl z_len PySem.boot_len (zc (zb (pv 0)) ze))))))))
noncomputable abbrev yw:Stmt:=top 23
theorem sc__law_drawn:zP ["_law_script", "_law_k", "_law_many", "_law_cell_here"] ["_law_script", "_law_k", "_law_many"] (zi yw):=⟨rfl,rfl,rfl,by decide +kernel,rfl,by decide +kernel,by decide +kernel⟩
theorem jH{f:Addr}{fd:FuncData}(A_:ye K mg "_law_drawn" yw f fd)(h__law_cell:DefOk P w K mg base "_law_cell" 1 2 ["_law_script", "_law_k"] yY):DefOk P w K mg base "_law_drawn" 2 3 ["_law_script", "_law_k", "_law_many"] zl:=by
 refine DefOk.mk (k:=1) A_ sc__law_drawn rfl (fun _ _ _ _ _ _ us hl=>by obtain⟨_,_,_,rfl⟩:=lnz3 hl;rfl) (fun cdv A outer s H E hr=>?_) fun _ _ _ h=>h
 exact(zk (yb (i:=3) sc__law_drawn.nd rfl (Or.inl rfl) (zq wu (zq zu (zq wt (zq wu (yc h__law_cell (hr.mono (by decide)) (zc (zb (pv 0)) (zc (zb (pv 1)) ze)) (zj (zj zB))) zg) zg) (zq wt zg (zq zu (zb (pv 1)) zg))) zg)) (zk (yb (i:=3) sc__law_drawn.nd rfl (Or.inl rfl) (zq wu (zq zu (zq wt (zb (pv 3)) (zb (pv 3))) (zq vI (zb (pv 3)) zg)) zg)) (zn (zK (zq wu (zq vI (zq wu (zq zu (zq wt (zb (pv 3)) (zb (pv 3))) (zq vI (zb (pv 3)) zg)) zg) zg) (zb (pv 2)))))))
noncomputable abbrev yK:Stmt:=top 24
theorem sc__law_name:zP ["_law_script", "_law_at", "_law_found", "_law_k"] ["_law_script", "_law_at"] (zi yK):=⟨rfl,rfl,rfl,by decide +kernel,rfl,by decide +kernel,by decide +kernel⟩
theorem Zr{f:Addr}{fd:FuncData}(A_:ye K mg "_law_name" yK f fd)(h__law_drawn:DefOk P w K mg base "_law_drawn" 2 3 ["_law_script", "_law_k", "_law_many"] zl)(z_range:mg "range" = none):DefOk P w K mg base "_law_name" 3 2 ["_law_script", "_law_at"] yi:=by
 refine DefOk.mk (k:=2) A_ sc__law_name rfl (fun _ _ _ _ _ _ us hl=>by obtain⟨_,_,rfl⟩:=lnz2 hl;rfl) (fun cdv A outer s H E hr=>?_) fun _ _ _ h=>h
 exact(zk (yb (i:=2) sc__law_name.nd rfl (Or.inl rfl) zt) (zk (Zn PassesOwn.never rfl (u0 rfl z_range (zc (zq zu zg (yc h__law_drawn (hr.mono (by decide)) (zc (zb (pv 0)) (zc (zb (pv 1)) (zc zg ze))) (zj (zj (zj zB))))) ze)) (xf sc__law_name.nd rfl (Or.inl rfl)) (zn (yb (i:=2) sc__law_name.nd rfl (Or.inl rfl) (zq zu (zb (pv 2)) (yr yZ zt (yc h__law_drawn (hr.mono (by decide)) (zc (zb (pv 0)) (zc (zq zu (zq zu (zb (pv 1)) zg) (zb (pv 3))) (zc zg ze))) (zj (zj (zj zB))))))))) (zn (zK (zb (pv 2))))))
noncomputable abbrev yv:Stmt:=top 26
theorem sc__law_names:zP ["_law_script", "_law_at", "_law_most", "_law_found"] ["_law_script", "_law_at", "_law_most"] (zi yv):=⟨rfl,rfl,rfl,by decide +kernel,rfl,by decide +kernel,by decide +kernel⟩
theorem jG{f:Addr}{fd:FuncData}(A_:ye K mg "_law_names" yv f fd)(h__law_drawn:DefOk P w K mg base "_law_drawn" 2 3 ["_law_script", "_law_k", "_law_many"] zl)(h__law_name:DefOk P w K mg base "_law_name" 3 2 ["_law_script", "_law_at"] yi)(z_len:mg "len" = none)(z_range:mg "range" = none):DefOk P w K mg base "_law_names" 4 3 ["_law_script", "_law_at", "_law_most"] yA:=by
 refine DefOk.mk (k:=3) A_ sc__law_names rfl (fun _ _ _ _ _ _ us hl=>by obtain⟨_,_,_,rfl⟩:=lnz3 hl;rfl) (fun cdv A outer s H E hr=>?_) fun _ _ _ h=>h
 exact(zk (Yy (i:=3) sc__law_names.nd rfl rfl rfl (tn:=["_law_k"]) (fr:=["_law_script", "_law_at"]) (idx:=[0,1]) rfl rfl ⟨rfl,rfl,⟨rfl,rfl,trivial⟩⟩ (wd 0) (PDI.h (u0 rfl z_range (zc (yc h__law_drawn (hr.mono (by decide)) (zc (zb (pv 0)) (zc (zb (pv 1)) (zc (zq zu (zb (pv 2)) zg) ze))) (zj (zj (zj zB)))) ze))) (fun s H C fp=>(xf (show List.Nodup (["_law_k", "_law_script", "_law_at"]:List Str) by decide +kernel) rfl (Or.inl rfl))) (fun s H C fp=>we) (fun s H C fp=>(yc h__law_name (hr.mono (by decide)) (zc (zb (pv 1)) (zc (zq zu (zq zu (zb (pv 2)) zg) (zq wt zg (zb (pv 0)))) ze)) (zj (zj zB))))) (zk (yM (wY (vB (zH jd (WJ (pv 3) rfl z_len) zg (z8 _)) (wC (zH (wF hr.units) (yc h__law_drawn (hr.mono (by decide)) (zc (zb (pv 0)) (zc (zq zu (zb (pv 1)) zg) (zc zg ze))) (zj (zj (zj zB)))) zg (z8 _))))) (zn (Ug (pv 3) zg (Ul (pv 3) (uE zg)))) zV) (zn (WF (pv 3)))))
noncomputable abbrev xk:Stmt:=top 16
theorem Yv:zP ["rows"] ["rows"] (zi xk):=⟨rfl,rfl,rfl,by decide +kernel,rfl,by decide +kernel,by decide +kernel⟩
theorem YA{f:Addr}{fd:FuncData}(A_:ye K mg "written" xk f fd):DefOk P w K mg base "written" 1 1 ["rows"] yF:=by
 refine DefOk.mk (k:=0) A_ Yv rfl (fun _ _ _ _ _ _ us hl=>by obtain⟨_,rfl⟩:=lnz1 hl;rfl) (fun cdv A outer s H E hr=>?_) fun _ _ _ h=>h
 exact(zn (zK (xZ F.plainAttrs_str F.slot_str_join F.type_str_join uG zt (zc (v0 (xK (tn:=["name", "count"]) (fr:=[]) (idx:=[]) rfl rfl trivial (uT 0 1) (PDI.h (xT (zb (pv 0)))) (fun s H C fp=>(u3 rfl (show List.Nodup (["name", "count"]:List Str) by decide +kernel) rfl (Or.inl rfl) rfl (Or.inl rfl))) (fun s H C fp=>we) (fun s H C fp=>(WK (vE (WM (zb (pv 1))) (vE zt (vE (WM (zb (pv 0))) (vE zt Uj)))))))) ze))))
noncomputable abbrev z0:Stmt:=top 11
theorem vY:zP ["sign"] ["sign"] (zi z0):=⟨rfl,rfl,rfl,by decide +kernel,rfl,by decide +kernel,by decide +kernel⟩
theorem v6{f:Addr}{fd:FuncData}(A_:ye K mg "is_query_sign" z0 f fd){t_FIGURES:Tok}(g_FIGURES:mg "FIGURES" = some (.str "0123456789" t_FIGURES)){t_GREAT:Tok}(g_GREAT:mg "GREAT" = some (.str "ABCDEFGHIJKLMNOPQRSTUVWXYZ" t_GREAT)){t_SMALL:Tok}(g_SMALL:mg "SMALL" = some (.str "abcdefghijklmnopqrstuvwxyz" t_SMALL)):DefOk P w K mg base "is_query_sign" 1 1 ["sign"] yf:=by
 refine DefOk.mk (k:=0) A_ vY rfl (fun _ _ _ _ _ _ us hl=>by obtain⟨_,rfl⟩:=lnz1 hl;rfl) (fun cdv A outer s H E hr=>?_) fun _ _ _ h=>h
 exact(zn (zK (Yz (vH (jc (wo hr)) (zb (pv 0)) (vG rfl g_SMALL) (by with_unfolding_all rfl)) (Yz (vH (jc (wo hr)) (zb (pv 0)) (vG rfl g_GREAT) (by with_unfolding_all rfl)) (Y9 (vH (jc (wo hr)) (zb (pv 0)) (vG rfl g_FIGURES) (by with_unfolding_all rfl)))))))
noncomputable abbrev ya:Stmt:=top 12
theorem uw:zP ["sign"] ["sign"] (zi ya):=⟨rfl,rfl,rfl,by decide +kernel,rfl,by decide +kernel,by decide +kernel⟩
theorem uy{f:Addr}{fd:FuncData}(A_:ye K mg "is_name_sign" ya f fd)(h_is_query_sign:DefOk P w K mg base "is_query_sign" 1 1 ["sign"] yf){t_MARKS:Tok}(g_MARKS:mg "MARKS" = some (.str "_-./" t_MARKS)):DefOk P w K mg base "is_name_sign" 2 1 ["sign"] zY:=by
 refine DefOk.mk (k:=1) A_ uw rfl (fun _ _ _ _ _ _ us hl=>by obtain⟨_,rfl⟩:=lnz1 hl;rfl) (fun cdv A outer s H E hr=>?_) fun _ _ _ h=>h
 exact(zn (zK (Yz (yc h_is_query_sign (hr.mono (by decide)) (zc (zb (pv 0)) ze) (zj zB)) (Y9 (vH (jc (wo hr)) (zb (pv 0)) (vG rfl g_MARKS) (by with_unfolding_all rfl))))))
noncomputable abbrev xl:Stmt:=top 13
theorem Yw:zP ["thing"] ["thing"] (zi xl):=⟨rfl,rfl,rfl,by decide +kernel,rfl,by decide +kernel,by decide +kernel⟩
theorem YB{f:Addr}{fd:FuncData}(A_:ye K mg "is_name" xl f fd)(h_is_name_sign:DefOk P w K mg base "is_name_sign" 2 1 ["sign"] zY){t_LONGEST_NAME:Tok}(g_LONGEST_NAME:mg "LONGEST_NAME" = some (.int 24 t_LONGEST_NAME))(z_all:mg "all" = none)(z_len:mg "len" = none)(z_str:mg "str" = none)(z_isinstance:mg "isinstance" = none):DefOk P w K mg base "is_name" 3 1 ["thing"] xn:=by
 refine DefOk.mk (k:=2) A_ Yw rfl (fun _ _ _ _ _ _ us hl=>by obtain⟨_,rfl⟩:=lnz1 hl;rfl) (fun cdv A outer s H E hr=>?_) fun _ _ _ h=>h
 exact(zk (yM (vD (vC (zS Qn rfl z_isinstance boot_isinstance (zc (zb (pv 0)) (zc (JM rfl z_str boot_str) ze))))) (zn (zK x0)) zV) (zk (yM (wY (ve (zH WS (zS xC rfl z_len PySem.boot_len (zc (zb (pv 0)) ze)) zg (z8 _)) (vA (zH jd (zS xC rfl z_len PySem.boot_len (zc (zb (pv 0)) ze)) (Xa rfl g_LONGEST_NAME) (z8 _))))) (zn (zK x0)) zV) (zn (zK (zS (Vu rfl) rfl z_all boot_all (zc (v0 (xK (tn:=["sign"]) (fr:=[]) (idx:=[]) rfl rfl trivial (wd 0) (PDI.h (xT (zb (pv 0)))) (fun s H C fp=>(xf (show List.Nodup (["sign"]:List Str) by decide +kernel) rfl (Or.inl rfl))) (fun s H C fp=>we) (fun s H C fp=>(yc h_is_name_sign (hr.mono (by decide)) (zc (zb (pv 0)) ze) (zj zB))))) ze))))))
noncomputable abbrev yk:Stmt:=top 18
theorem uU:zP ["figures"] ["figures"] (zi yk):=⟨rfl,rfl,rfl,by decide +kernel,rfl,by decide +kernel,by decide +kernel⟩
theorem je{f:Addr}{fd:FuncData}(A_:ye K mg "read_number" yk f fd){C_NoText:Addr}(t_NoText:EC K mg "NoText" C_NoText){t_MOST_FIGURES:Tok}(g_MOST_FIGURES:mg "MOST_FIGURES" = some (.int 6 t_MOST_FIGURES)){t_FIGURES:Tok}(g_FIGURES:mg "FIGURES" = some (.str "0123456789" t_FIGURES))(z_len:mg "len" = none)(z_all:mg "all" = none)(z_int:mg "int" = none):DefX P w K mg base "read_number" 1 1 ["figures"] yG:=by
 refine DefX.mk (k:=0) A_ uU rfl (fun _ _ _ _ _ _ us hl=>by obtain⟨_,rfl⟩:=lnz1 hl;rfl) (fun cdv A outer s H E hr=>?_)
 exact(zk (yM (wY (ve (zH WS (zS xC rfl z_len PySem.boot_len (zc (zb (pv 0)) ze)) zg (z8 _)) (vA (zH jd (zS xC rfl z_len PySem.boot_len (zc (zb (pv 0)) ze)) (Xa rfl g_MOST_FIGURES) (z8 _))))) (zn (wf t_NoText rfl hr.hd zt)) zV) (zk (yM (vD (vC (zS (Vu rfl) rfl z_all boot_all (zc (v0 (xK (tn:=["sign"]) (fr:=[]) (idx:=[]) rfl rfl trivial (wd 0) (PDI.h (xT (zb (pv 0)))) (fun s H C fp=>(xf (show List.Nodup (["sign"]:List Str) by decide +kernel) rfl (Or.inl rfl))) (fun s H C fp=>we) (fun s H C fp=>(vH (jc (wo hr)) (zb (pv 0)) (vG rfl g_FIGURES) (by with_unfolding_all rfl))))) ze)))) (zn (wf t_NoText rfl hr.hd zt)) zV) (zk (yM (wY (vB (zH (wF hr.units) (yr yZ (zb (pv 0)) zg) zt (z8 _)) (wC (zH jd (zS xC rfl z_len PySem.boot_len (zc (zb (pv 0)) ze)) zg (z8 _))))) (zn (wf t_NoText rfl hr.hd zt)) zV) (uY (zn (zK (vf Xt rfl z_int boot_int (zc (zb (pv 0)) ze))))))))
noncomputable abbrev yR:Stmt:=top 19
theorem sc_read_row:zP ["line", "parts"] ["line"] (zi yR):=⟨rfl,rfl,rfl,by decide +kernel,rfl,by decide +kernel,by decide +kernel⟩
theorem Z7{f:Addr}{fd:FuncData}(A_:ye K mg "read_row" yR f fd){C_NoText:Addr}(t_NoText:EC K mg "NoText" C_NoText)(h_is_name:DefOk P w K mg base "is_name" 3 1 ["thing"] xn)(h_read_number:DefX P w K mg base "read_number" 1 1 ["figures"] yG):DefX P w K mg base "read_row" 4 1 ["line"] z6:=by
 refine DefX.mk (k:=3) A_ sc_read_row rfl (fun _ _ _ _ _ _ us hl=>by obtain⟨_,rfl⟩:=lnz1 hl;rfl) (fun cdv A outer s H E hr=>?_)
 exact(zk (jT (yb (i:=1) sc_read_row.nd rfl (Or.inl rfl) (xZ F.plainAttrs_str F.slot_str_partition F.type_str_partition UC (zb (pv 0)) (zc zt ze)))) (zk (yM (vD (vC (yc h_is_name (hr.mono (by decide)) (zc (yr yZ (zb (pv 1)) zg) ze) (zj zB)))) (zn (wf t_NoText rfl hr.hd zt)) zV) (zn (Z5 (WG (yr yZ (zb (pv 1)) zg) (uZ h_read_number (fun _ h=>nomatch h) (hr.mono (by decide)) (zc (yr yZ (zb (pv 1)) zg) ze) (zj zB)))))))
noncomputable abbrev yS:Stmt:=top 17
theorem ZU:zP ["text"] ["text"] (zi yS):=⟨rfl,rfl,rfl,by decide +kernel,rfl,by decide +kernel,by decide +kernel⟩
theorem Z8{f:Addr}{fd:FuncData}(A_:ye K mg "lines_of" yS f fd){C_NoText:Addr}(t_NoText:EC K mg "NoText" C_NoText):DefX P w K mg base "lines_of" 1 1 ["text"] zT:=by
 refine DefX.mk (k:=0) A_ ZU rfl (fun _ _ _ _ _ _ us hl=>by obtain⟨_,rfl⟩:=lnz1 hl;rfl) (fun cdv A outer s H E hr=>?_)
 exact(zk (jT (yM (zH (wF hr.units) (zb (pv 0)) zt (z8 _)) (zn (zK (xg ze))) zV)) (zk (yM (vD (vC (xZ F.plainAttrs_str F.slot_str_endswith F.type_str_endswith UD (zb (pv 0)) (zc zt ze)))) (zn (wf t_NoText rfl hr.hd zt)) zV) (uY (zn (zK (xZ F.plainAttrs_str F.slot_str_split F.type_str_split vJ (xw (zb (pv 0)) yD (yC (uE zg))) (zc zt ze)))))))
noncomputable abbrev vb:Stmt:=top 20
theorem VS:zP ["text"] ["text"] (zi vb):=⟨rfl,rfl,rfl,by decide +kernel,rfl,by decide +kernel,by decide +kernel⟩
theorem Uq{f:Addr}{fd:FuncData}(A_:ye K mg "read" vb f fd)(h_lines_of:DefX P w K mg base "lines_of" 1 1 ["text"] zT)(h_read_row:DefX P w K mg base "read_row" 4 1 ["line"] z6):DefX P w K mg base "read" 5 1 ["text"] yz:=by
 refine DefX.mk (k:=4) A_ VS rfl (fun _ _ _ _ _ _ us hl=>by obtain⟨_,rfl⟩:=lnz1 hl;rfl) (fun cdv A outer s H E hr=>?_)
 exact(zn (Z5 (WH (tn:=["line"]) (fr:=[]) (idx:=[]) ⟨rfl,rfl,rfl⟩ rfl rfl trivial (wd 0) (uZ h_lines_of (fun _ h=>nomatch h) (hr.mono (by decide)) (zc (zb (pv 0)) ze) (zj zB)) (fun s H C fp=>(xf (show List.Nodup (["line"]:List Str) by decide +kernel) rfl (Or.inl rfl))) (fun s H C fp pins E hp=>(uZ h_read_row hp (hr.mono (by decide)) (zc (zb (pv 0)) ze) (zj zB))))))
noncomputable abbrev yI:Stmt:=top 28
theorem sc__law_told:zP ["_law_text", "e", "_law_flags"] ["_law_text"] (zi yI):=⟨rfl,rfl,rfl,by decide +kernel,rfl,by decide +kernel,by decide +kernel⟩
theorem Zp{f:Addr}{fd:FuncData}(A_:ye K mg "_law_told" yI f fd){C_NoText:Addr}(t_NoText:EC K mg "NoText" C_NoText)(q_NoText_ValueError:kitOne K (.ref C_NoText) (.type "ValueError")=some true)(k_NoText:ECK K C_NoText){C_NoFit:Addr}(t_NoFit:EC K mg "NoFit" C_NoFit)(q_NoText_NoFit:kitOne K (.ref C_NoText) (.ref C_NoFit)=some false){C_NoLaying:Addr}(t_NoLaying:EC K mg "NoLaying" C_NoLaying)(q_NoText_NoLaying:kitOne K (.ref C_NoText) (.ref C_NoLaying)=some false)(q_NoText_NoText:kitOne K (.ref C_NoText) (.ref C_NoText)=some true){C_FindError:Addr}(t_FindError:EC K mg "FindError" C_FindError)(x_NoText_FindError:exmOne K (.ref C_NoText) (.ref C_FindError)=some true)(h_read:DefX P w K mg base "read" 5 1 ["text"] yz)(z_isinstance:mg "isinstance" = none)(z_ValueError:mg "ValueError" = none):DefOk P w K mg base "_law_told" 6 1 ["_law_text"] zJ:=by
 refine DefOk.mk (k:=5) A_ sc__law_told rfl (fun _ _ _ _ _ _ us hl=>by obtain⟨_,rfl⟩:=lnz1 hl;rfl) (fun cdv A outer s H E hr=>?_) fun _ _ _ h=>h
 exact(zk (XE ⟨rfl,rfl,rfl⟩ t_FindError sc__law_told.nd rfl rfl (fun pins E=>(zn (WE (Z3 h_read rfl (hr.mono (by decide)) (zc (zb (pv 0)) ze) (zj zB))))) (fun a=>(zk (yb (i:=2) sc__law_told.nd rfl (Or.inl rfl) (xg (zc (vF t_NoText k_NoText (zb (pv 1)) (uD rfl t_NoText.mgl (show RelV (V.ref C_NoText) (Value.ref C_NoText) from rfl)) Zk q_NoText_NoText z_isinstance) (zc (vF t_NoText k_NoText (zb (pv 1)) (uD rfl t_NoLaying.mgl (show RelV (V.ref C_NoLaying) (Value.ref C_NoLaying) from rfl)) Zk q_NoText_NoLaying z_isinstance) (zc (vF t_NoText k_NoText (zb (pv 1)) (uD rfl t_NoFit.mgl (show RelV (V.ref C_NoFit) (Value.ref C_NoFit) from rfl)) Zk q_NoText_NoFit z_isinstance) ze))))) (zn (yM (wY (vB (vC (vF t_NoText k_NoText (zb (pv 1)) (Y7 rfl z_ValueError U3 (show RelV (V.ty "ValueError") (Value.type "ValueError") from rfl)) Jy q_NoText_ValueError z_isinstance)) (wC (zH (wF hr.units) (zb (pv 2)) (xg (by refine zc ?_ ?_ ?_;exact x0;(rotate_left;exact yo);refine zc ?_ ?_ ?_;exact x0;(rotate_left;exact yo);refine zc ?_ ?_ ?_;exact x0;(rotate_left;exact yo);exact ze)) (z8 _))))) (zn (zK wS)) zV)))) (ok1 t_NoText x_NoText_FindError)) (zn (zK x0)))
noncomputable abbrev yJ:Stmt:=top 29
theorem sc__law_read:zP ["_law_text", "_law_letters", "_law_rows", "_law_lines", "_law_line", "_law_words"] ["_law_text"] (zi yJ):=⟨rfl,rfl,rfl,by decide +kernel,rfl,by decide +kernel,by decide +kernel⟩
theorem Zq{f:Addr}{fd:FuncData}(A_:ye K mg "_law_read" yJ f fd)(z_int:mg "int" = none)(z_len:mg "len" = none):DefOk P w K mg base "_law_read" 1 1 ["_law_text"] z9:=by
 refine DefOk.mk (k:=0) A_ sc__law_read rfl (fun _ _ _ _ _ _ us hl=>by obtain⟨_,rfl⟩:=lnz1 hl;rfl) (fun cdv A outer s H E hr=>?_) fun _ _ _ h=>h
 exact(zk (yb (i:=1) sc__law_read.nd rfl (Or.inr rfl) zt) (zk (WD (i:=2) sc__law_read.nd rfl (Or.inl rfl) (Uk ze)) (zk (yb (i:=3) sc__law_read.nd rfl (Or.inl rfl) (xZ F.plainAttrs_str F.slot_str_split F.type_str_split vJ (zb (pv 0)) (zc zt ze))) (zk (Zn PassesOwn.never rfl (xT (xw (zb (pv 3)) yD (yC (uE zg)))) (xf sc__law_read.nd rfl (Or.inl rfl)) (zk (yb (i:=5) sc__law_read.nd rfl (Or.inl rfl) (xZ F.plainAttrs_str F.slot_str_split F.type_str_split vJ (zb (pv 4)) (zc zt ze))) (zk (yM (wY (ve (zH (wE hr.units) (zS xC rfl z_len PySem.boot_len (zc (zb (pv 5)) ze)) zg (z8 _)) (ve (zH (wF hr.units) (yr yZ (zb (pv 5)) zg) zt (z8 _)) (ve (wY (vB (zH (wE hr.units) (yr yZ (zb (pv 5)) zg) zt (z8 _)) (wC (zH (wF hr.units) (yr yZ (yr yZ (zb (pv 5)) zg) zg) zt (z8 _))))) (vA (zH jd (zS xC rfl z_len PySem.boot_len (zc (yr yZ (zb (pv 5)) zg) ze)) zg (z8 _))))))) (zn (zK wS)) zV) (zk (yM (wY (ve (zH (wE hr.units) (v0 (xK (tn:=["_law_sign"]) (fr:=[]) (idx:=[]) rfl rfl trivial (wd 0) (PDI.h (xT (yr yZ (zb (pv 5)) zg))) (fun s H C fp=>(xf (show List.Nodup (["_law_sign"]:List Str) by decide +kernel) rfl (Or.inl rfl))) (fun s H C fp=>(Z4 (zH (jV (wo hr)) (zb (pv 0)) zt (by with_unfolding_all rfl)))) (fun s H C fp=>(zb (pv 0))))) (xg ze) (z8 _)) (vA (vD (XD WT WT zg (zS xC rfl z_len PySem.boot_len (zc (yr yZ (zb (pv 5)) zg) ze)) zg))))) (zn (zK wS)) zV) (zk (yM (zH (wE hr.units) (v0 (xK (tn:=["_law_sign"]) (fr:=["_law_letters"]) (idx:=[1]) rfl rfl ⟨rfl,rfl,trivial⟩ (wd 0) (PDI.h (xT (yr yZ (zb (pv 5)) zg))) (fun s H C fp=>(xf (show List.Nodup (["_law_sign", "_law_letters"]:List Str) by decide +kernel) rfl (Or.inl rfl))) (fun s H C fp=>(Z4 (zH (jV (wo hr)) (zb (pv 0)) (zb (pv 1)) (by with_unfolding_all rfl)))) (fun s H C fp=>(zb (pv 0))))) (xg ze) (z8 _)) (zn (zK wS)) zV) (zn (Ui (pv 2) (Y8 (zc (yr yZ (zb (pv 5)) zg) (zc (vf Xt rfl z_int boot_int (zc (yr yZ (zb (pv 5)) zg) ze)) ze)))))))))) (zn (Uh (zK (JN (zH (wF hr.units) (yr yZ (zb (pv 3)) (uE zg)) zt (z8 _)) (zb (pv 2)) wS))))))))
noncomputable abbrev vz:Stmt:=top 30
theorem sc_law:zP ["_law_script", "_law_names_here", "_law_rows", "_law_text", "_law_at", "_law_sign", "_law_lines", "_law_one", "_law_some", "_law_other", "_law_told_here"] ["_law_script"] (zi vz):=⟨rfl,rfl,rfl,by decide +kernel,rfl,by decide +kernel,by decide +kernel⟩
theorem JV{f:Addr}{fd:FuncData}(A_:Fun K "law" "law" vz f fd)(h_written:DefOk P w K mg base "written" 1 1 ["rows"] yF)(h__law_read:DefOk P w K mg base "_law_read" 1 1 ["_law_text"] z9)(h__law_told:DefOk P w K mg base "_law_told" 6 1 ["_law_text"] zJ)(h__law_drawn:DefOk P w K mg base "_law_drawn" 2 3 ["_law_script", "_law_k", "_law_many"] zl)(h_read:DefX P w K mg base "read" 5 1 ["text"] yz)(h__law_names:DefOk P w K mg base "_law_names" 4 3 ["_law_script", "_law_at", "_law_most"] yA)(z_len:mg "len" = none)(z_str:mg "str" = none)(z_enumerate:mg "enumerate" = none):FnOk P w K mg base CX0 7 f fd ["_law_script"] (spD K 1 Xe):=by
 refine fnD (k:=6) A_ sc_law rfl fun cdv A outer s H E hr=>?_
 exact(zk (yb (i:=1) sc_law.nd rfl (Or.inl rfl) (yc h__law_names (hr.mono (by decide)) (zc (zb (pv 0)) (zc zg (zc zg ze))) (zj (zj (zj zB))))) (zk (XF (i:=2) sc_law.nd rfl rfl rfl (tn:=["_law_k", "_law_name_here"]) (fr:=["_law_script"]) (idx:=[0]) rfl rfl ⟨rfl,rfl,trivial⟩ (uT 0 1) (PDI.h (WI rfl z_enumerate (zc (zb (pv 1)) ze))) (fun s H C fp=>(u3 rfl (show List.Nodup (["_law_k", "_law_name_here", "_law_script"]:List Str) by decide +kernel) rfl (Or.inl rfl) rfl (Or.inl rfl))) (fun s H C fp=>we) (fun s H C fp=>(Y8 (zc (zb (pv 1)) (zc (yr yZ (xg (by refine zc ?_ ?_ ?_;exact zg;(rotate_left;exact yo);refine zc ?_ ?_ ?_;exact zg;(rotate_left;exact yo);refine zc ?_ ?_ ?_;exact zg;(rotate_left;exact yo);refine zc ?_ ?_ ?_;exact zg;(rotate_left;exact yo);exact ze)) (yc h__law_drawn (hr.mono (by decide)) (zc (zb (pv 2)) (zc (zq zu zg (zb (pv 0))) (zc zg ze))) (zj (zj (zj zB))))) ze))))) (zk (yb (i:=3) sc_law.nd rfl (Or.inl rfl) (yc h_written (hr.mono (by decide)) (zc (zb (pv 2)) ze) (zj zB))) (zk (yM (zH (wE hr.units) (zb (pv 3)) (xZ F.plainAttrs_str F.slot_str_join F.type_str_join uG zt (zc (v0 (xK (tn:=["_law_name_here", "_law_count"]) (fr:=[]) (idx:=[]) rfl rfl trivial (uT 0 1) (PDI.h (xT (zb (pv 2)))) (fun s H C fp=>(u3 rfl (show List.Nodup (["_law_name_here", "_law_count"]:List Str) by decide +kernel) rfl (Or.inl rfl) rfl (Or.inl rfl))) (fun s H C fp=>we) (fun s H C fp=>(zq zu (zq zu (zq zu (vf U2 rfl z_str boot_str (zc (zb (pv 1)) ze)) zt) (zb (pv 0))) zt)))) ze)) (z8 _)) (zn (zK x0)) zV) (zk (yM (zH (wE hr.units) (XG (Z3 h_read rfl (hr.mono (by decide)) (zc (zb (pv 3)) ze) (zj zB))) (zb (pv 2)) (z8 _)) (zn (zK x0)) zV) (zk (yb (i:=4) sc_law.nd rfl (Or.inl rfl) (yc h__law_drawn (hr.mono (by decide)) (zc (zb (pv 0)) (zc zg (zc (zq zu (zS xC rfl z_len PySem.boot_len (zc (zb (pv 3)) ze)) zg) ze))) (zj (zj (zj zB))))) (zk (yb (i:=5) sc_law.nd rfl (Or.inl rfl) (yr yZ zt (yc h__law_drawn (hr.mono (by decide)) (zc (zb (pv 0)) (zc zg (zc zg ze))) (zj (zj (zj zB)))))) (zk (yb (i:=6) sc_law.nd rfl (Or.inl rfl) (xZ F.plainAttrs_str F.slot_str_split F.type_str_split vJ (zb (pv 3)) (zc zt ze))) (zk (yb (i:=7) sc_law.nd rfl (Or.inl rfl) (yc h__law_drawn (hr.mono (by decide)) (zc (zb (pv 0)) (zc zg (zc (zS xC rfl z_len PySem.boot_len (zc (zb (pv 6)) ze)) ze))) (zj (zj (zj zB))))) (zk (yb (i:=8) sc_law.nd rfl (Or.inl rfl) (xg (zc (zq zu (zq zu (xw (zb (pv 3)) yD (yC (zb (pv 4)))) (zb (pv 5))) (xw (zb (pv 3)) (yC (zb (pv 4))) yD)) (zc (zq zu (xw (zb (pv 3)) yD (yC (zb (pv 4)))) (xw (zb (pv 3)) (yC (zq zu (zb (pv 4)) zg)) yD)) (zc (zq zu (zq zu (xw (zb (pv 3)) yD (yC (zb (pv 4)))) (zb (pv 5))) (xw (zb (pv 3)) (yC (zq zu (zb (pv 4)) zg)) yD)) ze))))) (zk (yb (i:=8) sc_law.nd rfl (Or.inl rfl) (zq zu (zb (pv 8)) (xg (zc (xZ F.plainAttrs_str F.slot_str_join F.type_str_join uG zt (zc (zq zu (xw (zb (pv 6)) yD (yC (zb (pv 7)))) (xw (zb (pv 6)) (yC (zq zu (zb (pv 7)) zg)) yD)) ze)) (zc (xZ F.plainAttrs_str F.slot_str_join F.type_str_join uG zt (zc (zq zu (xw (zb (pv 6)) yD (yC (zq zu (zb (pv 7)) zg))) (xw (zb (pv 6)) (yC (zb (pv 7))) yD)) ze)) ze))))) (zk (Zn PassesOwn.never rfl (xT (zq zu (zb (pv 8)) (xg (zc (yr yZ (by refine xg ?_;exact(by refine zc ?_ ?_ ?_;exact zt;(rotate_left;exact yo);refine zc ?_ ?_ ?_;exact zt;(rotate_left;exact yo);refine zc ?_ ?_ ?_;exact zt;(rotate_left;exact yo);refine zc ?_ ?_ ?_;exact zt;(rotate_left;exact yo);refine zc ?_ ?_ ?_;exact zt;(rotate_left;exact yo);refine zc ?_ ?_ ?_;exact zt;(rotate_left;exact yo);exact ze)) (zq wu (zb (pv 4)) zg)) ze)))) (xf sc_law.nd rfl (Or.inl rfl)) (zk (yb (i:=10) sc_law.nd rfl (Or.inl rfl) (yc h__law_told (hr.mono (by decide)) (zc (zb (pv 9)) ze) (zj zB))) (zn (yM (wY (ve (zH (wE hr.units) (zb (pv 10)) (yc h__law_read (hr.mono (by decide)) (zc (zb (pv 9)) ze) (zj zB)) (z8 _)) (vA (wY (vB (zH XI (zb (pv 10)) wS (z8 _)) (wC (zH (wE hr.units) (yc h_written (hr.mono (by decide)) (zc (zb (pv 10)) ze) (zj zB)) (zb (pv 9)) (z8 _)))))))) (zn (zK x0)) zV)))) (zn (zK x0))))))))))))))
end
set_option autoImplicit true in
set_option relaxedAutoImplicit true in
theorem all_mk{l:PySem.W.OpenLaw}{w:World}{K:Frag}{h:Heap}{mg:Str→Option Value}{fa:Addr}(X:K.In h)(G:h.Ns mainGlobals mg)(hfa:mg "law" = some (.ref fa))(hl:∀ns:List Int,ns.length≤63→Xe [.scr ns]=.ok (.bl true))
  {f0 f1 f2 f3 f4 f5 f6 f7 f8 f9 f10 f11 f12 f13 f14:Addr}
  (a0:nsIn K mainGlobals "_law_cell" = some (some (.ref f0))) (l0:K.lookup f0=some ⟨oc0,od0,.func (fnOf "_law_cell" "_law_cell" (zO yL) (zE yL) (zi yL) .none kV0 dc0 pm0 an0 cd0 ct0),sl0⟩) (c0:codeIn K cd0 "_law_cell" = true) (k0:keepIn K (.ref f0)=true)
  (a1:nsIn K mainGlobals "_law_drawn" = some (some (.ref f1))) (l1:K.lookup f1=some ⟨oc1,od1,.func (fnOf "_law_drawn" "_law_drawn" (zO yw) (zE yw) (zi yw) .none kV1 dc1 pm1 an1 cd1 ct1),sl1⟩) (c1:codeIn K cd1 "_law_drawn" = true) (k1:keepIn K (.ref f1)=true)
  (a2:nsIn K mainGlobals "_law_name" = some (some (.ref f2))) (l2:K.lookup f2=some ⟨oc2,od2,.func (fnOf "_law_name" "_law_name" (zO yK) (zE yK) (zi yK) .none kV2 dc2 pm2 an2 cd2 ct2),sl2⟩) (c2:codeIn K cd2 "_law_name" = true) (k2:keepIn K (.ref f2)=true)
  (a3:nsIn K mainGlobals "_law_names" = some (some (.ref f3))) (l3:K.lookup f3=some ⟨oc3,od3,.func (fnOf "_law_names" "_law_names" (zO yv) (zE yv) (zi yv) .none kV3 dc3 pm3 an3 cd3 ct3),sl3⟩) (c3:codeIn K cd3 "_law_names" = true) (k3:keepIn K (.ref f3)=true)
  (a4:nsIn K mainGlobals "written" = some (some (.ref f4))) (l4:K.lookup f4=some ⟨oc4,od4,.func (fnOf "written" "written" (zO xk) (zE xk) (zi xk) .none kV4 dc4 pm4 an4 cd4 ct4),sl4⟩) (c4:codeIn K cd4 "written" = true) (k4:keepIn K (.ref f4)=true)
  (a5:nsIn K mainGlobals "is_query_sign" = some (some (.ref f5))) (l5:K.lookup f5=some ⟨oc5,od5,.func (fnOf "is_query_sign" "is_query_sign" (zO z0) (zE z0) (zi z0) .none kV5 dc5 pm5 an5 cd5 ct5),sl5⟩) (c5:codeIn K cd5 "is_query_sign" = true) (k5:keepIn K (.ref f5)=true)
  (a6:nsIn K mainGlobals "is_name_sign" = some (some (.ref f6))) (l6:K.lookup f6=some ⟨oc6,od6,.func (fnOf "is_name_sign" "is_name_sign" (zO ya) (zE ya) (zi ya) .none kV6 dc6 pm6 an6 cd6 ct6),sl6⟩) (c6:codeIn K cd6 "is_name_sign" = true) (k6:keepIn K (.ref f6)=true)
  (a7:nsIn K mainGlobals "is_name" = some (some (.ref f7))) (l7:K.lookup f7=some ⟨oc7,od7,.func (fnOf "is_name" "is_name" (zO xl) (zE xl) (zi xl) .none kV7 dc7 pm7 an7 cd7 ct7),sl7⟩) (c7:codeIn K cd7 "is_name" = true) (k7:keepIn K (.ref f7)=true)
  (a8:nsIn K mainGlobals "read_number" = some (some (.ref f8))) (l8:K.lookup f8=some ⟨oc8,od8,.func (fnOf "read_number" "read_number" (zO yk) (zE yk) (zi yk) .none kV8 dc8 pm8 an8 cd8 ct8),sl8⟩) (c8:codeIn K cd8 "read_number" = true) (k8:keepIn K (.ref f8)=true)
  (a9:nsIn K mainGlobals "read_row" = some (some (.ref f9))) (l9:K.lookup f9=some ⟨oc9,od9,.func (fnOf "read_row" "read_row" (zO yR) (zE yR) (zi yR) .none kV9 dc9 pm9 an9 cd9 ct9),sl9⟩) (c9:codeIn K cd9 "read_row" = true) (k9:keepIn K (.ref f9)=true)
  (a10:nsIn K mainGlobals "lines_of" = some (some (.ref f10))) (l10:K.lookup f10=some ⟨oc10,od10,.func (fnOf "lines_of" "lines_of" (zO yS) (zE yS) (zi yS) .none kV10 dc10 pm10 an10 cd10 ct10),sl10⟩) (c10:codeIn K cd10 "lines_of" = true) (k10:keepIn K (.ref f10)=true)
  (a11:nsIn K mainGlobals "read" = some (some (.ref f11))) (l11:K.lookup f11=some ⟨oc11,od11,.func (fnOf "read" "read" (zO vb) (zE vb) (zi vb) .none kV11 dc11 pm11 an11 cd11 ct11),sl11⟩) (c11:codeIn K cd11 "read" = true) (k11:keepIn K (.ref f11)=true)
  (a12:nsIn K mainGlobals "_law_told" = some (some (.ref f12))) (l12:K.lookup f12=some ⟨oc12,od12,.func (fnOf "_law_told" "_law_told" (zO yI) (zE yI) (zi yI) .none kV12 dc12 pm12 an12 cd12 ct12),sl12⟩) (c12:codeIn K cd12 "_law_told" = true) (k12:keepIn K (.ref f12)=true)
  (a13:nsIn K mainGlobals "_law_read" = some (some (.ref f13))) (l13:K.lookup f13=some ⟨oc13,od13,.func (fnOf "_law_read" "_law_read" (zO yJ) (zE yJ) (zi yJ) .none kV13 dc13 pm13 an13 cd13 ct13),sl13⟩) (c13:codeIn K cd13 "_law_read" = true) (k13:keepIn K (.ref f13)=true)
  (a14:nsIn K mainGlobals "law" = some (some (.ref f14))) (l14:K.lookup f14=some ⟨oc14,od14,.func (fnOf "law" "law" (zO vz) (zE vz) (zi vz) .none kV14 dc14 pm14 an14 cd14 ct14),sl14⟩) (c14:codeIn K cd14 "law" = true) (k14:keepIn K (.ref f14)=true)
  {C_NoText:Addr}
  {C_NoFit:Addr}
  {C_NoLaying:Addr}
  {C_FindError:Addr}
  (c_NoText:nsIn K mainGlobals "NoText" = some (some (.ref C_NoText)))
  (e_NoText:excIn K C_NoText VE "ValueError.__new__" = true)
  (c_NoFit:nsIn K mainGlobals "NoFit" = some (some (.ref C_NoFit)))
  (e_NoFit:excIn K C_NoFit VE "ValueError.__new__" = true)
  (c_NoLaying:nsIn K mainGlobals "NoLaying" = some (some (.ref C_NoLaying)))
  (e_NoLaying:excIn K C_NoLaying VE "ValueError.__new__" = true)
  (c_FindError:nsIn K mainGlobals "FindError" = some (some (.ref C_FindError)))
  (e_FindError:excIn K C_FindError VE "ValueError.__new__" = true)
  (ka_NoText:findIn K (.ref C_NoText) "__getattribute__" = some (some (.builtin "BaseException.__getattribute__")))
  (kb_NoText:findIn K (.ref C_NoText) "__getattr__" = some none)
  (kc_NoText:findObj K C_NoText none "__class__" = some (Builtin.ObjectAttr.Found.bind (.builtin "getset_descriptor.__get__") (.builtin "object.__class__")))
  (kd_NoText:mroIn K C_NoText (.type "object")=some true)
  (ke_NoText:mroIn K C_NoText (.type "BaseException")=some true)
  (kf_NoText:typeIn K (.ref C_NoText)=some (.type "type"))
  (kg_NoText:kitCls K (.ref C_NoText) (.ref C_NoText)=some true)
  (q_NoText_ValueError:kitOne K (.ref C_NoText) (.type "ValueError")=some true)
  (q_NoText_NoFit:kitOne K (.ref C_NoText) (.ref C_NoFit)=some false)
  (q_NoText_NoLaying:kitOne K (.ref C_NoText) (.ref C_NoLaying)=some false)
  (q_NoText_NoText:kitOne K (.ref C_NoText) (.ref C_NoText)=some true)
  (x_NoText_FindError:exmOne K (.ref C_NoText) (.ref C_FindError)=some true)
  (g_FIGURES:nsIn K mainGlobals "FIGURES" = some (some (.str "0123456789" t_FIGURES)))
  (g_GREAT:nsIn K mainGlobals "GREAT" = some (some (.str "ABCDEFGHIJKLMNOPQRSTUVWXYZ" t_GREAT)))
  (g_SMALL:nsIn K mainGlobals "SMALL" = some (some (.str "abcdefghijklmnopqrstuvwxyz" t_SMALL)))
  (g_MARKS:nsIn K mainGlobals "MARKS" = some (some (.str "_-./" t_MARKS)))
  (g_LONGEST_NAME:nsIn K mainGlobals "LONGEST_NAME" = some (some (.int 24 t_LONGEST_NAME)))
  (g_MOST_FIGURES:nsIn K mainGlobals "MOST_FIGURES" = some (some (.int 6 t_MOST_FIGURES)))
  (z_len:nsIn K mainGlobals "len" = some none)
  (z_range:nsIn K mainGlobals "range" = some none)
  (z_all:nsIn K mainGlobals "all" = some none)
  (z_str:nsIn K mainGlobals "str" = some none)
  (z_isinstance:nsIn K mainGlobals "isinstance" = some none)
  (z_int:nsIn K mainGlobals "int" = some none)
  (z_ValueError:nsIn K mainGlobals "ValueError" = some none)
  (z_enumerate:nsIn K mainGlobals "enumerate" = some none)
  : ∃fd:FuncData,(∀(s:Shared) (v:Value),BindsTo s fd ⟨[v],[]⟩ [("_law_script", v)])∧∀base:Heap,K.In base→base.Ns mainGlobals mg→FnOk l.prog w K mg base CX0 7 fa fd ["_law_script"] (YX K):=by
 have e:=hfa.symm.trans (mg_of X G a14)
 cases e
 have D0:ye K mg "_law_cell" yL f0 _:=⟨yX (st:=yL) l0 c0 k0,mg_of X G a0⟩
 have D1:ye K mg "_law_drawn" yw f1 _:=⟨yX (st:=yw) l1 c1 k1,mg_of X G a1⟩
 have D2:ye K mg "_law_name" yK f2 _:=⟨yX (st:=yK) l2 c2 k2,mg_of X G a2⟩
 have D3:ye K mg "_law_names" yv f3 _:=⟨yX (st:=yv) l3 c3 k3,mg_of X G a3⟩
 have D4:ye K mg "written" xk f4 _:=⟨yX (st:=xk) l4 c4 k4,mg_of X G a4⟩
 have D5:ye K mg "is_query_sign" z0 f5 _:=⟨yX (st:=z0) l5 c5 k5,mg_of X G a5⟩
 have D6:ye K mg "is_name_sign" ya f6 _:=⟨yX (st:=ya) l6 c6 k6,mg_of X G a6⟩
 have D7:ye K mg "is_name" xl f7 _:=⟨yX (st:=xl) l7 c7 k7,mg_of X G a7⟩
 have D8:ye K mg "read_number" yk f8 _:=⟨yX (st:=yk) l8 c8 k8,mg_of X G a8⟩
 have D9:ye K mg "read_row" yR f9 _:=⟨yX (st:=yR) l9 c9 k9,mg_of X G a9⟩
 have D10:ye K mg "lines_of" yS f10 _:=⟨yX (st:=yS) l10 c10 k10,mg_of X G a10⟩
 have D11:ye K mg "read" vb f11 _:=⟨yX (st:=vb) l11 c11 k11,mg_of X G a11⟩
 have D12:ye K mg "_law_told" yI f12 _:=⟨yX (st:=yI) l12 c12 k12,mg_of X G a12⟩
 have D13:ye K mg "_law_read" yJ f13 _:=⟨yX (st:=yJ) l13 c13 k13,mg_of X G a13⟩
 refine⟨fnOf "law" "law" (zO vz) (zE vz) (zi vz) .none kV14 dc14 pm14 an14 cd14 ct14,fun s v=>.of_eq rfl,fun base _ _=>?_⟩
 have t_NoText:EC K mg "NoText" C_NoText:=⟨c_NoText,mg_of X G c_NoText,e_NoText⟩
 have t_NoFit:EC K mg "NoFit" C_NoFit:=⟨c_NoFit,mg_of X G c_NoFit,e_NoFit⟩
 have t_NoLaying:EC K mg "NoLaying" C_NoLaying:=⟨c_NoLaying,mg_of X G c_NoLaying,e_NoLaying⟩
 have t_FindError:EC K mg "FindError" C_FindError:=⟨c_FindError,mg_of X G c_FindError,e_FindError⟩
 have k_NoText:ECK K C_NoText:=⟨ka_NoText,kb_NoText,kc_NoText,kd_NoText,ke_NoText,kf_NoText,kg_NoText⟩
 have h__law_cell:DefOk l.prog w K mg base "_law_cell" 1 2 ["_law_script", "_law_k"] yY:=Zs D0 (mg_none_of X G z_len)
 have h__law_drawn:DefOk l.prog w K mg base "_law_drawn" 2 3 ["_law_script", "_law_k", "_law_many"] zl:=jH D1 h__law_cell
 have h__law_name:DefOk l.prog w K mg base "_law_name" 3 2 ["_law_script", "_law_at"] yi:=Zr D2 h__law_drawn (mg_none_of X G z_range)
 have h__law_names:DefOk l.prog w K mg base "_law_names" 4 3 ["_law_script", "_law_at", "_law_most"] yA:=jG D3 h__law_drawn h__law_name (mg_none_of X G z_len) (mg_none_of X G z_range)
 have h_written:DefOk l.prog w K mg base "written" 1 1 ["rows"] yF:=YA D4
 have h_is_query_sign:DefOk l.prog w K mg base "is_query_sign" 1 1 ["sign"] yf:=v6 D5 (mg_of X G g_FIGURES) (mg_of X G g_GREAT) (mg_of X G g_SMALL)
 have h_is_name_sign:DefOk l.prog w K mg base "is_name_sign" 2 1 ["sign"] zY:=uy D6 h_is_query_sign (mg_of X G g_MARKS)
 have h_is_name:DefOk l.prog w K mg base "is_name" 3 1 ["thing"] xn:=YB D7 h_is_name_sign (mg_of X G g_LONGEST_NAME) (mg_none_of X G z_all) (mg_none_of X G z_len) (mg_none_of X G z_str) (mg_none_of X G z_isinstance)
 have h_read_number:DefX l.prog w K mg base "read_number" 1 1 ["figures"] yG:=je D8 t_NoText (mg_of X G g_MOST_FIGURES) (mg_of X G g_FIGURES) (mg_none_of X G z_len) (mg_none_of X G z_all) (mg_none_of X G z_int)
 have h_read_row:DefX l.prog w K mg base "read_row" 4 1 ["line"] z6:=Z7 D9 t_NoText h_is_name h_read_number
 have h_lines_of:DefX l.prog w K mg base "lines_of" 1 1 ["text"] zT:=Z8 D10 t_NoText
 have h_read:DefX l.prog w K mg base "read" 5 1 ["text"] yz:=Uq D11 h_lines_of h_read_row
 have h__law_told:DefOk l.prog w K mg base "_law_told" 6 1 ["_law_text"] zJ:=Zp D12 t_NoText q_NoText_ValueError k_NoText t_NoFit q_NoText_NoFit t_NoLaying q_NoText_NoLaying q_NoText_NoText t_FindError x_NoText_FindError h_read (mg_none_of X G z_isinstance) (mg_none_of X G z_ValueError)
 have h__law_read:DefOk l.prog w K mg base "_law_read" 1 1 ["_law_text"] z9:=Zq D13 (mg_none_of X G z_int) (mg_none_of X G z_len)
 exact JZ (JV (yX (st:=vz) l14 c14 k14) h_written h__law_read h__law_told h__law_drawn h_read h__law_names (mg_none_of X G z_len) (mg_none_of X G z_str) (mg_none_of X G z_enumerate)) hl
end Law
open PySem PySem.W PyProof.Rows
set_option maxRecDepth 100000 in
set_option maxHeartbeats 0 in
theorem PySem.Challenge.cw_fewfind_k90_texts_holds : PySem.Challenge.rw_fewfind_k90_texts.Holds := by
 w_on;o_law;k_head;(case hw=>w_witness2)
 k_fill
 refine FD.walk (l:=PySem.Challenge.rw_fewfind_k90_texts) (k:=7) (p := "_law_script") rfl rfl ⟨rfl,by decide,by decide⟩ (fun w h Y=>PySem.W.kIn_of Y) ?F
 case F=>
  intro w mg fa h KX G hmg
  refine' Law.all_mk KX G hmg Law.main ..
  any_goals first|k_is|k_exc|with_unfolding_all rfl
