import PyProof.Rows.All
import Wide.All
import OpenK.AllK
import Wide.FinOn
import Lean
import PyProof.EqAt
import PyProof.EqKinds
import PyProof.TupleCall
import PyProof.NeKinds
import PyProof.NeData
import PyProof.P3In
import PyProof.ZipIter
import PyProof.Draws
import PyProof.StrWalks
import PyProof.IsiPairs
import PyProof.IsiSeqPairs
import PyProof.ConsumeWalk
import PyProof.ListStr
import PyProof.IsiHeapPairs
import PyProof.Rows.Range3
import PyProof.IsiNone
import KE.KRevIter
import KE.KRevSl
import PyProof.Conv_int_bool
import PyProof.ListRange
import PyProof.TupleOfSeq
import PyProof.MinMaxWalk
import PyProof.WalkInts
import PyProof.SeqI3
import PyProof.SetKind
import PyProof.Rows.SetFrom
import PyProof.CollectWalk
import PyProof.FactsAll.set
import PyProof.Rows.SortWalk
import PyProof.Rows.SortShell
import PyProof.Rows.SumAny
import PyProof.DictWalks
import PyProof.Rows.SortRev
import PyProof.Rows.SortStr
import PyProof.AttrMissHeap
import KE.KDictOf
import PySem.Challenge.RW_fewfind_k31_whole_seekers
set_option Elab.async false
set_option linter.all false
set_option maxRecDepth 100000
theorem X01{G:Prop}{A B:Prop}(h:A∧B)(g:A→B→G):G:=have⟨ha,hb⟩:=h;g ha hb
theorem X02{G:Prop}{A B C:Prop}(h:A∧B∧C)(g:A→B→C→G):G:=have⟨ha,hb,hc⟩:=h;g ha hb hc
theorem X03{G:Prop}{A B C D:Prop}(h:A∧B∧C∧D)(g:A→B→C→D→G):G:=have⟨ha,hb,hc,hd⟩:=h;g ha hb hc hd
theorem X10{G:Prop}{a:Type}{A:a→Prop}(h:∃s,A s)(g:∀s,A s→G):G:=have⟨s,ha⟩:=h;g s ha
theorem X11{G:Prop}{a:Type}{A B:a→Prop}(h:∃s,A s∧B s)(g:∀s,A s→B s→G):G:=have⟨s,ha,hb⟩:=h;g s ha hb
theorem X12{G:Prop}{a:Type}{A B C:a→Prop}(h:∃s,A s∧B s∧C s)(g:∀s,A s→B s→C s→G):G:=have⟨s,ha,hb,hc⟩:=h;g s ha hb hc
theorem X21{G:Prop}{a b:Type}{A B:a→b→Prop}(h:∃s t,A s t∧B s t)(g:∀s t,A s t→B s t→G):G:=have⟨s,t,ha,hb⟩:=h;g s t ha hb
theorem X22{G:Prop}{a b:Type}{A B C:a→b→Prop}(h:∃s t,A s t∧B s t∧C s t)(g:∀s t,A s t→B s t→C s t→G):G:=have⟨s,t,ha,hb,hc⟩:=h;g s t ha hb hc
theorem X23{G:Prop}{a b:Type}{A B C D:a→b→Prop}(h:∃s t,A s t∧B s t∧C s t∧D s t)(g:∀s t,A s t→B s t→C s t→D s t→G):G:=have⟨s,t,ha,hb,hc,hd⟩:=h;g s t ha hb hc hd
theorem X34{G:Prop}{a b c:Type}{A B C D E:a→b→c→Prop}(h:∃s t u,A s t u∧B s t u∧C s t u∧D s t u∧E s t u)(g:∀s t u,A s t u→B s t u→C s t u→D s t u→E s t u→G):G:=have⟨s,t,u,ha,hb,hc,hd,he⟩:=h;g s t u ha hb hc hd he
theorem X35{G:Prop}{a b c:Type}{A B C D E F:a→b→c→Prop}(h:∃s t u,A s t u∧B s t u∧C s t u∧D s t u∧E s t u∧F s t u)(g:∀s t u,A s t u→B s t u→C s t u→D s t u→E s t u→F s t u→G):G:=have⟨s,t,u,ha,hb,hc,hd,he,hf⟩:=h;g s t u ha hb hc hd he hf
theorem X41{G:Prop}{a b c d:Type}{A B:a→b→c→d→Prop}(h:∃s t u v,A s t u v∧B s t u v)(g:∀s t u v,A s t u v→B s t u v→G):G:=have⟨s,t,u,v,ha,hb⟩:=h;g s t u v ha hb
theorem Y11{a:Type}{A B:a→Prop}(s:a)(ha:A s)(hb:B s):∃s,A s∧B s:=⟨s,ha,hb⟩
theorem Y12{a:Type}{A B C:a→Prop}(s:a)(ha:A s)(hb:B s)(hc:C s):∃s,A s∧B s∧C s:=⟨s,ha,hb,hc⟩
theorem Y21{a b:Type}{A B:a→b→Prop}(s:a)(t:b)(ha:A s t)(hb:B s t):∃s t,A s t∧B s t:=⟨s,t,ha,hb⟩
theorem Y22{a b:Type}{A B C:a→b→Prop}(s:a)(t:b)(ha:A s t)(hb:B s t)(hc:C s t):∃s t,A s t∧B s t∧C s t:=⟨s,t,ha,hb,hc⟩
theorem Y41{a b c d:Type}{A B:a→b→c→d→Prop}(s:a)(t:b)(u:c)(v:d)(ha:A s t u v)(hb:B s t u v):∃s t u v,A s t u v∧B s t u v:=⟨s,t,u,v,ha,hb⟩
open PySem.W (instObj methodObj lookIn plainGet hasDictIn findIn plainGet_of isFn plainOver takerIn makesIn emptyDict keepIn callWith_K fnOf codeIn nsIn mg_of mg_none_of)
open PyProof.Rows (boot_list boot_sorted)
open Array (length_toList getElem?_eq_getElem getElem_toList)
open PySem.W (Frag)
open PySem.Heap (get?_push_of_some)
namespace L2
open PySem PySem.Spec PyProof.Rows
theorem lnz1{α:Type _}{l:List α}(h:l.length=1):∃a,l=[a]:=List.length_eq_one_iff.mp h
theorem lnz2{α:Type _}{l:List α}(h:l.length=2):∃a b,l=[a,b]:=by
 match l,h with
 |[a,b],_=>exact⟨a,b,rfl⟩
theorem lnz3{α:Type _}{l:List α}(h:l.length=3):∃a b c,l=[a,b,c]:=by
 match l,h with
 |[a,b,c],_=>exact⟨a,b,c,rfl⟩
theorem lnz4{α:Type _}{l:List α}(h:l.length=4):∃a b c d,l=[a,b,c,d]:=by
 match l,h with
 |[a,b,c,d],_=>exact⟨a,b,c,d,rfl⟩
noncomputable abbrev Key:=Sum Int Str
noncomputable def zm0:Key→Value→Bool
 |.inl k,v=>Value.isInt k v
 |.inr x,v=>Value.isStrOf x v
noncomputable def keyH(w:World):Key→Int
 |.inl k=>hashInt k
 |.inr x=>hashStr w x
theorem xw:∀{k:Key} {v:Value},zm0 k v=true→(∃i t,k=Sum.inl i∧v=Value.int i t)∨(∃x t,k=Sum.inr x∧v=Value.str x t)
 |.inl i,v,h=>by
  obtain⟨t,e⟩:=Value.isInt_shape (k:=i) (v:=v) h
  exact .inl ⟨i,t,rfl,e⟩
 |.inr x,v,h=>by
  obtain⟨t,e⟩:=Value.isStrOf_shape (x:=x) (v:=v) h
  exact .inr ⟨x,t,rfl,e⟩
theorem zt0(a b:Int):decide ((Sum.inl a:Key)=Sum.inl b)=(a==b):=by
 by_cases e:a=b
 ·subst e;simp
 ·have h:¬ (Sum.inl a:Key)=Sum.inl b:=fun q=>e (Sum.inl.inj q)
  rw[decide_eq_false h]
  exact(beq_eq_false_iff_ne.mpr e).symm
theorem zs7(a b:Str):decide ((Sum.inr a:Key)=Sum.inr b)=decide (a=b):=by
 by_cases e:a=b
 ·subst e;simp
 ·have h:¬ (Sum.inr a:Key)=Sum.inr b:=fun q=>e (Sum.inr.inj q)
  rw[decide_eq_false h,decide_eq_false e]
theorem zs9(a:Int)(b:Str):decide ((Sum.inl a:Key)=Sum.inr b)=false:=decide_eq_false (fun q=>nomatch q)
theorem zs8(a:Str)(b:Int):decide ((Sum.inr a:Key)=Sum.inl b)=false:=decide_eq_false (fun q=>nomatch q)
noncomputable def Ud(prog:Program)(w:World):PySem.KeyKind prog w Key where
 is:=zm0
 hash:=keyH w
 inj:=fun v a b ha hb=>by
  rcases xw ha with ⟨i,t,rfl,rfl⟩|⟨x,t,rfl,rfl⟩
  ·rcases xw hb with ⟨j,u,rfl,e⟩|⟨y,u,rfl,e⟩
   ·injection e with e1 _;rw[e1]
   ·exact nomatch e
  ·rcases xw hb with ⟨j,u,rfl,e⟩|⟨y,u,rfl,e⟩
   ·exact nomatch e
   ·injection e with e1 _;rw[e1]
 byValue:=fun k v h=>by
  rcases xw h with ⟨i,t,rfl,rfl⟩|⟨x,t,rfl,rfl⟩ <;> rfl
 pyHash:=fun hv h=>by
  rcases xw hv with ⟨i,t,rfl,rfl⟩|⟨x,t,rfl,rfl⟩
  ·exact wpAny_pyHash_int h
  ·exact wpAny_pyHash_str h
 eqBool:=fun hu hv h=>by
  rcases xw hu with ⟨i,t,rfl,rfl⟩|⟨x,t,rfl,rfl⟩
  ·rcases xw hv with ⟨j,u,rfl,rfl⟩|⟨y,u,rfl,rfl⟩
   ·rw[zt0] at h;exact wpAny_eqBool_int h
   ·rw[zs9] at h;exact SeqAt.EqAt.int_str i t y u _ _ _ _ h
  ·rcases xw hv with ⟨j,u,rfl,rfl⟩|⟨y,u,rfl,rfl⟩
   ·rw[zs8] at h;exact SeqAt.EqAt.str_int x t j u _ _ _ _ h
   ·rw[zs7] at h;exact wpAny_eqBool_str h
 «strs»:=fun k x t v h=>by
  rcases xw h with ⟨i,u,rfl,e⟩|⟨y,u,rfl,e⟩
  ·exact nomatch e
  ·injection e with e1 _
   subst e1
   cases v <;> rfl
inductive V where
 | non|bl (b:Bool) | int (i:Int) | str (x:Str) | byt (b:Array UInt8) | flt (b:UInt64) | ref (a:Addr) | ty (n:String)
 deriving DecidableEq
noncomputable def RelV:V→Value→Prop
 |.non,u=>u=Value.none
 |.bl b,u=>u=Value.bool b
 |.int i,u=>∃t,u=Value.int i t
 |.str x,u=>∃t,u=Value.str x t
 |.byt b,u=>∃t,u=Value.bytes b t
 |.flt b,u=>∃t,u=Value.float b t
 |.ref a,u=>u=Value.ref a
 |.ty n,u=>u=Value.type n
noncomputable abbrev Vals:List V→List Value→Prop:=Paired RelV
theorem Vals.length{xs:List V}{us:List Value}(r:Vals xs us):xs.length=us.length:=Paired.length r
theorem Vals.get:∀{xs:List V} {us:List Value} {i:Nat} {x:V},Vals xs us→xs[i]?=some x→∃u,us[i]?=some u∧RelV x u
 |_,_,_,_,.nil,e=>by simp at e
 |_,_,0,_,.cons r _,e=>by simp at e;subst e;exact Y11 _ rfl r
 |_,_,i+1,x,.cons _ t,e=>by
  refine X11 (Vals.get (i:=i) (x:=x) t (by simpa using e)) fun u h1 h2=>?_
  exact Y11 u (by simpa using h1) h2
theorem Vals.set{x:V}{u:Value}(r:RelV x u):∀{xs:List V} {us:List Value} (i:Nat),Vals xs us→Vals (xs.set i x) (us.set i u)
 |_,_,_,.nil=>.nil
 |_,_,0,.cons _ t=>.cons r t
 |_,_,i+1,.cons q t=>.cons q (Vals.set r i t)
theorem Vals.append:∀{xs ys:List V} {us ws:List Value},Vals xs us→Vals ys ws→Vals (xs++ys) (us++ws)
 |_,_,_,_,.nil,s=>s
 |_,_,_,_,.cons r t,s=>.cons r (Vals.append t s)
theorem Vals.take:∀{xs:List V} {us:List Value} (n:Nat),Vals xs us→Vals (xs.take n) (us.take n)
 |_,_,0,_=>.nil
 |_,_,_+1,.nil=>.nil
 |_,_,n+1,.cons r t=>.cons r (Vals.take n t)
theorem Vals.drop:∀{xs:List V} {us:List Value} (n:Nat),Vals xs us→Vals (xs.drop n) (us.drop n)
 |_,_,0,r=>r
 |_,_,_+1,.nil=>.nil
 |_,_,n+1,.cons _ t=>Vals.drop n t
noncomputable def RelO:Option V→Option Value→Prop
 |some v,some u=>RelV v u
 |none,none=>True
 |_,_=>False
noncomputable def KV{κ:Type}:List (κ×V)→List (κ×Value)→Prop:=Paired fun (p:κ×V) (q:κ×Value)=>p.1=q.1∧RelV p.2 q.2
noncomputable def kV:Key→V
 |.inl i=>.int i
 |.inr x=>.str x
inductive HO where
 | lst (xs:List V)
 | tup (xs:List V)
 | dK (kvs:List (Key×V)) | dT (kvs:List (List Key×V))
 | set (S:Int→Bool) (n:Nat)
 | ins (C dx:Addr) (fs:List (Str×V))
 | own (x:Addr)
 | xd (fs:List (Str×V))
 | met (f x:Addr)
 | rng (lo hi:Int)
 | frz (o:Obj) (u:HO)
 | tbl (ps:Array Value)
 | ext (φ:Heap→Prop)
noncomputable abbrev Hp:=Addr→Option HO
noncomputable def upd(H:Hp)(a:Addr)(o:HO):Hp:=fun b=>if b=a then some o else H b
theorem zp{H:Hp}{a:Addr}{o:HO}:upd H a o a=some o:=by unfold upd;rw[if_pos rfl]
theorem zj{H:Hp}{a b:Addr}{o:HO}(h:b≠a):upd H a o b=H b:=by unfold upd;rw[if_neg h]
theorem upd_upd{H:Hp}{a:Addr}{o u:HO}:upd (upd H a o) a u=upd H a u:=by
 funext b;unfold upd;split <;> rfl
theorem zC{H:Hp}{a b:Addr}{o:HO}(h:H a=some o)(h':H b=none):a≠b:=by
 intro e;subst e;rw[h] at h';nomatch h'
section
variable(P:Program)(w:World)
noncomputable def ObjOk(H:Hp)(h:Heap)(a:Addr):HO→Prop
 |.lst xs=>xs.length≤sizeLine∧∃(its:List Value) (n:Nat),Vals xs its∧h.get? a=some { cls:=.type "list", data:=.seq its.toArray n }
 |.tup xs=>xs.length≤sizeLine∧∃its:List Value,Vals xs its∧IsTup h a its.toArray
 |.dK kvs=>kvs.length≤sizeLine∧(a==sysModules)=false∧∃vs,KV kvs vs∧h.DictOf (Ud P w) a vs
 |.dT kvs=>kvs.length≤sizeLine∧(a==sysModules)=false∧∃xs:List (List Key×Addr×Value),
   Paired (fun (p:List Key×V) (q:List Key×Addr×Value)=>p.1=q.1∧H q.2.1=some (.tup (p.1.map kV))∧RelV p.2 q.2.2) kvs xs ∧
   ∃o es ep,h.get? a=some o∧o.ExactDict∧o.data=.dict es ep∧es.toList=xs.map (entryOfKey (tupleKind (Ud P w)))∧(xs.map (·.1)).Nodup
 |.set S n=>h.SetOf (intKind P w) a S n
 |.ins C dx fs=>H dx=some (.own a)∧fs.length≤1000∧dx≠a∧h.get? a=some (instObj C dx) ∧
   ∃mA,h.Ns1 dx mA∧(∀f,RelO (fs.lookup f) (mA f))∧PySem.Within mA (fs.map (·.1))
 |.own _=>∃o,h.get? a=some o
 |.xd fs=>∃mA,h.Ns1 a mA∧∀f,RelO (fs.lookup f) (mA f)
 |.rng lo hi=>∃t u v,h.get? a=some { cls:=.type "range", data:=.fields #[.int lo t,.int hi u,.int 1 v] }
 |.frz o u=>h.get? a=some o∧ObjOk H h a u
 |.tbl ps=>h.get? a=some { cls:=.none,data:=.fields ps }
 |.met f x=>h.get? a=some (methodObj (.ref f) (.ref x))
 |.ext φ=>φ h∧(∃o,h.get? a=some o)∧∀h1 h2:Heap,φ h1→(∀o,h1.get? a=some o→h2.get? a=some o)→φ h2
noncomputable def HOk(H:Hp)(h:Heap):Prop:=∀a o,H a=some o→ObjOk P w H h a o
end
section
variable{P:Program}{w:World}{H H':Hp}{h h':Heap}{a:Addr}{o:HO}
theorem ObjOk.lt(x:ObjOk P w H h a o):a<h.objs.size:=by
 cases o with
 |lst xs=>refine X01 x fun _ r0_=>?_;refine X21 r0_ fun _ _ _ e=>?_;exact Heap.lt_size e
 |tup xs=>refine X01 x fun _ r1_=>?_;refine X11 r1_ fun _ _ p=>?_;exact p.lt
 |dK kvs=>obtain⟨_,_,_,_,o,_,_,e,_⟩:=x;exact Heap.lt_size e
 |dT kvs=>obtain⟨_,_,_,_,o,_,_,e,_⟩:=x;exact Heap.lt_size e
 |set S n=>refine X41 x fun o _ _ _ e _=>?_;exact Heap.lt_size e
 |ins C dx fs=>obtain⟨_,_,_,e,_⟩:=x;exact Heap.lt_size e
 |own y=>obtain⟨_,e⟩:=x;exact Heap.lt_size e
 |xd fs=>obtain⟨_,⟨_,_,_,e,_⟩,_⟩:=x;exact Heap.lt_size e
 |rng lo hi=>obtain⟨_,_,_,e⟩:=x;exact Heap.lt_size e
 |frz ob u=>obtain⟨e,_⟩:=x;exact Heap.lt_size e
 |tbl ps=>exact Heap.lt_size (show h.get? a=some _ from x)
 |met f y=>exact Heap.lt_size (show h.get? a=some _ from x)
 |ext φ=>obtain⟨_,⟨_,e⟩,_⟩:=x;exact Heap.lt_size e
theorem Paired.mapP{α β:Type}{F G:α→β→Prop}:∀{l₁:List α} {l₂:List β},Paired F l₁ l₂→(∀a b,F a b→G a b)→Paired G l₁ l₂
 |_,_,.nil,_=>.nil
 |_,_,.cons r t,f=>.cons (f _ _ r) (Paired.mapP t f)
theorem ObjOk.stay(x:ObjOk P w H h a o)(k:∀b u,(b=a∨H b=some (.own a))→h.get? b=some u→h'.get? b=some u)
  (ho:∀b,H b=some (.own a)→H' b=some (.own a)) (ht:∀b xs,H b=some (.tup xs)→H' b=some (.tup xs)):ObjOk P w H' h' a o:=by
 induction o with
 |lst xs=>refine X01 x fun z r6_=>?_;refine X21 r6_ fun its n r e=>?_;exact⟨z,its,n,r,k _ _ (.inl rfl) e⟩
 |tup xs=>refine X01 x fun z r7_=>?_;refine X11 r7_ fun its r r8_=>?_;refine X11 r8_ fun ob e c=>?_;exact⟨z,its,r,ob,k _ _ (.inl rfl) e,c⟩
 |dK kvs=>obtain⟨z,y,vs,r,ob,es,ep,e,c⟩:=x;exact⟨z,y,vs,r,ob,es,ep,k _ _ (.inl rfl) e,c⟩
 |dT kvs=>
  obtain⟨z,y,xs,r,ob,es,ep,e,c⟩:=x
  exact⟨z,y,xs,Paired.mapP r fun p q z=>⟨z.1,ht _ _ z.2.1,z.2.2⟩,ob,es,ep,k _ _ (.inl rfl) e,c⟩
 |set S n=>refine X41 x fun ob es ep t e c=>?_;exact Y41 ob es ep t (k _ _ (.inl rfl) e) c
 |ins C dx fs=>
  obtain⟨d,z,ne,e,mA,⟨od,es,ep,e2,c⟩,r⟩:=x
  exact⟨ho _ d,z,ne,k _ _ (.inl rfl) e,mA,⟨od,es,ep,k _ _ (.inr d) e2,c⟩,r⟩
 |own y=>obtain⟨ob,e⟩:=x;exact⟨ob,k _ _ (.inl rfl) e⟩
 |xd fs=>obtain⟨mA,⟨od,es,ep,e,c⟩,r⟩:=x;exact Y11 mA ⟨od,es,ep,k _ _ (.inl rfl) e,c⟩ r
 |rng lo hi=>obtain⟨t,u,v,e⟩:=x;exact⟨t,u,v,k _ _ (.inl rfl) e⟩
 |frz ob u ih=>obtain⟨e,q⟩:=x;exact⟨k _ _ (.inl rfl) e,ih q⟩
 |tbl ps=>
  have e:h.get? a=some { cls:=.none,data:=.fields ps }:=x
  show h'.get? a=some { cls:=.none,data:=.fields ps }
  exact k a _ (.inl rfl) e
 |met f y=>
  have e:h.get? a=some (methodObj (.ref f) (.ref y)):=x
  show h'.get? a=some (methodObj (.ref f) (.ref y))
  exact k a _ (.inl rfl) e
 |ext φ=>obtain⟨p,⟨o,e⟩,st⟩:=x;exact⟨st _ _ p fun o q=>k _ _ (.inl rfl) q,⟨o,k _ _ (.inl rfl) e⟩,st⟩
theorem HOk.lt(x:HOk P w H h)(e:H a=some o):a<h.objs.size:=(x a o e).lt
theorem HOk.fresh(x:HOk P w H h)(e:h.objs.size≤a):H a=none:=by
 cases q:H a with
 |none=>rfl
 |some u=>exact absurd (Nat.lt_of_lt_of_le (x.lt q) e) (Nat.lt_irrefl _)
theorem HOk.kept(x:HOk P w H h)(k:∀b u,h.get? b=some u→h'.get? b=some u):HOk P w H h':=fun a o e=>
 (x a o e).stay (fun b u _ q=>k b u q) (fun _ q=>q) fun _ _ q=>q
theorem _root_.sI_{α:Type}{a b:α}(h:some a=some b):a=b:=Option.some.inj h
theorem HOk.laid(x:HOk P w H h)(k:∀b u,h.get? b=some u→h'.get? b=some u)(hp:h.objs.size≤a)(new:ObjOk P w (upd H a o) h' a o):HOk P w (upd H a o) h':=fun b u e=>by
 have hn:=x.fresh hp
 by_cases hb:b=a
 ·subst hb;rw[zp] at e;replace e:=sI_ e;subst e;exact new
 ·rw[zj hb] at e
  exact(x b u e).stay (fun c v _ q=>k c v q) (fun c q=>by rw[zj (zC q hn)];exact q) fun c xs q=>by rw[zj (zC q hn)];exact q
end
noncomputable def Rd(H:Hp)(a:Addr)(u:HO):Prop:=H a=some u∨∃o,H a=some (.frz o u)
theorem Rd.ok{P:Program}{w:World}{H:Hp}{h:Heap}{a:Addr}{u:HO}(r:Rd H a u)(x:HOk P w H h):ObjOk P w H h a u:=by
 rcases r with r|⟨o,r⟩
 ·exact x a u r
 ·obtain⟨_,q⟩:=x a _ r
  exact q
noncomputable def Mut:Option HO→Prop
 | some (.lst _)=>True
 | some (.dK _)=>True
 | some (.dT _)=>True
 | some (.set _ _)=>True
 | some (.ins _ _ _)=>True
 | some (.ext _)=>True
 |_=>False
section
variable{P:Program}{w:World}{H:Hp}{h h':Heap}{x e:Addr}{o':HO}
theorem _root_.sJ_{α:Type}{a b:α}(h:some a=some b):b=a:=(Option.some.inj h).symm
theorem HOk.write(ok:HOk P w H h)(mu:Mut (H x))(he:e=x∨H e=some (.own x))(k:∀b u,b≠e→h.get? b=some u→h'.get? b=some u)(heo:∃u,h'.get? e=some u)
  (new:ObjOk P w (upd H x o') h' x o'):HOk P w (upd H x o') h':=fun b u q=>by
 have nown:∀c y,H c=some (.own y)→c≠x:=fun c y r z=>by subst z;rw[r] at mu;exact mu
 have ntup:∀c xs,H c=some (.tup xs)→c≠x:=fun c xs r z=>by subst z;rw[r] at mu;exact mu
 by_cases hb:b=x
 ·subst hb;rw[zp] at q;replace q:=sI_ q;subst q;exact new
 ·rw[zj hb] at q
  by_cases hbe:b=e
  ·have q':H b=some (.own x):=by
    rcases he with z|z
    ·exact absurd (hbe.trans z) hb
    ·rw[hbe];exact z
   rw[q] at q';replace q':=sJ_ q';subst q'
   obtain⟨v,hv⟩:=heo
   exact⟨v,by rw[hbe];exact hv⟩
  ·refine(ok b u q).stay (fun c v hc r=>k c v ?_ r) (fun c r=>by rw[zj (nown c b r)];exact r) fun c xs r=>by rw[zj (ntup c xs r)];exact r
   rcases hc with rfl|hc
   ·exact hbe
   ·rintro rfl
    rcases he with z|z
    ·exact nown c b hc z
    ·rw[hc] at z;replace z:=(L2.HO.own.inj (Option.some.inj z)).symm;subst z;exact hb rfl
end
structure Un(fs ex:List Addr)(H H':Hp)(h h':Heap):Prop where
 keep:∀b o,h.get? b=some o→H b=none→b∉fs→b∉ex→h'.get? b=some o
 slot:∀b o,h.get? b=some o→H b=none→b∈fs→b∉ex→∃sl,h'.get? b=some { o with slots:=sl }
 free:∀b o,h.get? b=some o→H b=none→b∉ex→H' b=none
 there:∀b o,h.get? b=some o→b∉ex→∃o',h'.get? b=some o'
 tups:∀b xs,H b=some (.tup xs)→H' b=some (.tup xs)
 frzs:∀b o u,H b=some (.frz o u)→H' b=some (.frz o u)
 tbls:∀b ps,H b=some (.tbl ps)→∃more,H' b=some (.tbl (ps++more))
section
variable{fs fs' ex ex':List Addr}{H H1 H2:Hp}{h h1 h2 h':Heap}{a x e:Addr}{o:HO}
theorem Un.any(u:Un fs ex H H1 h h1){b:Addr}{ob:Obj}(q:h.get? b=some ob)(n:H b=none)(hx:b∉ex):∃sl,h1.get? b=some { ob with slots:=sl }:=by
 by_cases hb:b∈fs
 ·exact u.slot b ob q n hb hx
 ·exact⟨ob.slots,u.keep b ob q n hb hx⟩
theorem Un.kept(k:∀b u,h.get? b=some u→h'.get? b=some u):Un fs ex H H h h':=
 ⟨fun b ob q _ _ _=>k b ob q,fun b ob q _ _ _=>⟨ob.slots,k b ob q⟩,fun _ _ _ n _=>n,fun b ob q _=>⟨ob,k b ob q⟩,fun _ _ q=>q,fun _ _ _ q=>q,fun _ ps q=>⟨#[],by rw[q];simp⟩⟩
theorem Un.refl:Un fs ex H H h h:=Un.kept fun _ _ q=>q
theorem Un.laid(k:∀b u,h.get? b=some u→h'.get? b=some u)(hp:h.objs.size≤a)(hn:H a=none):Un fs ex H (upd H a o) h h' where
 keep:=fun b u q _ _ _=>k b u q
 slot:=fun b u q _ _ _=>⟨u.slots,k b u q⟩
 free:=fun b u q n _=>by rw[zj (Nat.ne_of_lt (Nat.lt_of_lt_of_le (Heap.lt_size q) hp))];exact n
 there:=fun b u q _=>⟨u,k b u q⟩
 tups:=fun b xs q=>by rw[zj (zC q hn)];exact q
 frzs:=fun b u xs q=>by rw[zj (zC q hn)];exact q
 tbls:=fun b ps q=>⟨#[],by rw[zj (zC q hn),q];simp⟩
theorem Un.write(mu:Mut (H x))(he:e=x∨H e=some (.own x))(k:∀b u,b≠e→h.get? b=some u→h'.get? b=some u)(heo:∃u,h'.get? e=some u):Un fs ex H (upd H x o) h h':=by
 have hx:∀b,H b=none→b≠x:=fun b n z=>by subst z;rw[n] at mu;exact mu
 have hb:∀b,H b=none→b≠e:=fun b n z=>by
  subst z
  rcases he with r|r
  ·exact hx b n r
  ·rw[n] at r;nomatch r
 have hm:∀b u,H b=some u→¬ Mut (some u)→b≠x:=fun b u q nm z=>by subst z;rw[q] at mu;exact nm mu
 refine⟨fun b u q n _ _=>k b u (hb b n) q,fun b u q n _ _=>⟨u.slots,k b u (hb b n) q⟩,fun b u q n _=>by rw[zj (hx b n)];exact n,fun b u q _=>?_,
  fun b xs q=>by rw[zj (hm b _ q fun z=>z)];exact q,fun b u xs q=>by rw[zj (hm b _ q fun z=>z)];exact q,fun b ps q=>⟨#[],by rw[zj (hm b _ q fun z=>z),q];simp⟩⟩
 by_cases hbe:b=e
 ·subst hbe;exact heo
 ·exact⟨u,k b u hbe q⟩
end
noncomputable def trk(h:Heap)(H:Hp):List Addr:=(List.range h.objs.size).filter fun a=>(H a).isSome
noncomputable def WQ(h:Heap)(H:Hp):Heap:=PySem.W.hideAll h (trk h H)
theorem MN(h:Heap)(H:Hp):(WQ h H).objs.size=h.objs.size:=PySem.W.hideAll_size _ _
theorem LQ{h:Heap}{H:Hp}{b:Addr}{o:Obj}(e:h.get? b=some o)(n:H b=none):(WQ h H).get? b=some o:=
 PySem.W.hideAll_get _ e fun hm=>by
  have q:(H b).isSome=true:=(List.mem_filter.mp hm).2
  rw[n] at q;simp at q
theorem zg0{h:Heap}{H:Hp}{b:Addr}{o:Obj}(e:(WQ h H).get? b=some o):h.get? b=some o∧H b=none:=by
 have e':h.get? b=some o:=PySem.W.of_hideAll (trk h H) e
 refine⟨e',?_⟩
 cases q:H b with
 |none=>rfl
 |some x=>
  have hm:b∈trk h H:=List.mem_filter.mpr ⟨List.mem_range.mpr (Heap.lt_size e'),by simp[q]⟩
  have z:(WQ h H).get? b=none:=PySem.W.hideAll_none (trk h H) hm
  rw[z] at e;nomatch e
noncomputable def zk8(g h:Heap)(L:Addr):List (Addr×Obj):=(List.range h.objs.size).filterMap fun a=>if a=L∨(g.get? a).isSome=true then none else (h.get? a).map fun o=>(a,o)
noncomputable def rest(g h:Heap)(L d:Addr):List (Addr×Obj):=(zk8 g h L).filter fun p=>decide (p.1≠d)
structure Mod(K:Frag)(mg:Str→Option Value)(base:Heap):Prop where
 kin:K.In base
 glob:base.Ns mainGlobals mg
 blt:∃mb,base.Ns builtinsNs mb∧∀x:Str,x ≠ "__name__" → mb x=bootBuiltins x
 nolimit:base.NoLimit
structure Cx where
 prog:Program
 w:World
 K:Frag
 mg:Str→Option Value
 base:Heap
 A:Around
 N:List Str
 s₀:Shared
 H₀:Hp
 env:Env
 outer:List Env
 stack:List Env
 ex:List Addr
 fn:Str→Bool
 calm:Bool
 pn:List (Addr×Obj)
 xe:Value→Shared→Prop
noncomputable def frs(l:List Env):List Addr:=l.filterMap (·.frame)
noncomputable abbrev Cx.fs(X:Cx):List Addr:=frs X.outer
noncomputable def Vis(sc:Scope)(x:Str):Prop:=sc.names.lookup x=some .local∨sc.names.lookup x=some .cell∨sc.names.lookup x=some .free
noncomputable def Loc(sc:Scope)(x:Str):Prop:=sc.names.lookup x=some .local∨sc.names.lookup x=some .cell
noncomputable def Look(env:Env)(h:Heap)(m:Str→Option Value)(x:Str)(u:Value):Prop:=
 (env.kindOf x=some .local∧m x=some u)∨((env.kindOf x=some .cell∨env.kindOf x=some .free)∧∃c,env.cells.lookup x=some c∧h.IsCell c (some u))
structure Cx.Ok(X:Cx):Prop where
 mod:Mod X.K X.mg X.base
 kind:X.env.scope.kind=.function
 glob:X.env.globals=mainGlobals
 blt:X.env.builtins=builtinsNs
 above:X.s₀.heap.objs.size≤X.env.locals
 inj:∀x y c,X.env.cells.lookup x=some c→X.env.cells.lookup y=some c→x=y
 has:∀x,(X.env.kindOf x=some .cell∨X.env.kindOf x=some .free)→∃c,X.env.cells.lookup x=some c
 cab:∀x c,X.fn x=true→X.env.cells.lookup x=some c→X.s₀.heap.objs.size≤c
 hd:X.calm=true→X.A.handled=none
 frames:X.A.frames=some X.stack
 stk:X.stack=X.outer∨(X.stack=X.env::X.outer∧X.env.frame=some X.env.locals)
 exf:∀b∈X.ex,b≠X.env.locals∧∀x c,X.env.cells.lookup x=some c→c≠b
 bs:∀b o,X.base.get? b=some o→X.s₀.heap.get? b=some o∧X.H₀ b=none
 bsz:X.base.objs.size≤X.s₀.heap.objs.size
 noex:∀b o,X.base.get? b=some o→b∉X.ex
 exfs:∀b∈X.ex,b∉X.fs
 funs:X.s₀.heap.FunFrames X.base X.outer
 frf:∀b∈X.fs,X.H₀ b=none
structure Inv(X:Cx)(pins:List (Addr×Obj))(σ:List (Option V))(H:Hp)(s:Shared):Prop where
 ok:X.Ok
 os:s.os=X.s₀.os
 bare:AllBare s.gens
 base:Un X.fs X.ex X.H₀ H X.s₀.heap s.heap
 loc:∃m,s.heap.Ns X.env.locals m∧∀(i:Nat) (x:Str) (v:V),X.N[i]?=some x→σ[i]?=some (some v)→Vis X.env.scope x→∃u,RelV v u∧Look X.env s.heap m x u
 cell:∀x c,X.env.cells.lookup x=some c→∃v,s.heap.IsCell c v
 free:H X.env.locals=none
 freeC:∀x c,X.env.cells.lookup x=some c→H c=none
 pin:∀p∈X.pn++pins,s.heap.get? p.1=some p.2∧H p.1=none∧p.1≠X.env.locals∧p.1∉X.fs∧∀v,p.2.data≠.cell v
 hok:HOk X.prog X.w H s.heap
 len:σ.length=X.N.length
section
variable{X:Cx}{pins:List (Addr×Obj)}{σ:List (Option V)}{H H':Hp}{s:Shared}{h':Heap}
theorem Cx.Ok.nofr(ok:X.Ok){b:Addr}{o:Obj}(e:X.base.get? b=some o):b∉X.fs:=fun hb=>by
 have:=(ok.funs.mem hb).1
 rw[e] at this;nomatch this
theorem Inv.bs(I:Inv X pins σ H s):∀b o,X.base.get? b=some o→s.heap.get? b=some o∧H b=none:=fun b o e=>
 ⟨I.base.keep b o (I.ok.bs b o e).1 (I.ok.bs b o e).2 (I.ok.nofr e) (I.ok.noex b o e),I.base.free b o (I.ok.bs b o e).1 (I.ok.bs b o e).2 (I.ok.noex b o e)⟩
theorem Inv.bk(I:Inv X pins σ H s):∀b o,X.base.get? b=some o→s.heap.get? b=some o:=fun b o e=>(I.bs b o e).1
theorem Inv.mod(I:Inv X pins σ H s):Mod X.K X.mg X.base:=I.ok.mod
theorem Inv.kIn(I:Inv X pins σ H s):X.K.In s.heap:=I.ok.mod.kin.keeps I.bk
theorem Inv.lt(I:Inv X pins σ H s):X.env.locals<s.heap.objs.size:=let ⟨_,hn,_⟩:=I.loc;hn.lt
theorem Inv.sz(I:Inv X pins σ H s):X.s₀.heap.objs.size≤s.heap.objs.size:=Nat.le_trans I.ok.above (Nat.le_of_lt I.lt)
theorem Inv.nofs(I:Inv X pins σ H s){a:Addr}(h:s.heap.objs.size≤a):a∉X.fs:=fun hb=>by
 refine X01 (I.ok.funs.mem hb) fun _ r13_=>?_;refine X11 r13_ fun o ho _=>?_
 exact absurd (Nat.lt_of_lt_of_le (Heap.lt_size ho) (Nat.le_trans I.sz h)) (Nat.lt_irrefl _)
theorem Inv.cne(I:Inv X pins σ H s):∀x c,X.env.cells.lookup x=some c→c≠X.env.locals:=fun x c e z=>by
 refine X21 (I.cell x c e) fun v o ho hd=>?_
 obtain⟨m,⟨o',es,ep,ho',hd',_⟩,_⟩:=I.loc
 rw[z,ho'] at ho;replace ho:=sJ_ ho;subst ho;rw[hd'] at hd;nomatch hd
theorem Inv.funs(I:Inv X pins σ H s):s.heap.FunFrames X.base X.outer:=by
 have all:∀(l:List Env),(∀b∈frs l,b∈X.fs)→X.s₀.heap.FunFrames X.base l→s.heap.FunFrames X.base l:=by
  intro l
  induction l with
  |nil=>intro _ _;trivial
  |cons env r ih=>
   intro hs hl
   obtain⟨hk,⟨L,o,hf,hn,ho,hd⟩,hr⟩:=hl
   have hL:L∈X.fs:=hs L (by unfold frs;rw[List.filterMap_cons,hf];exact List.mem_cons_self)
   obtain⟨sl,e⟩:=I.base.slot L o ho (I.ok.frf L hL) hL fun z=>I.ok.exfs L z hL
   exact⟨hk,⟨L,_,hf,hn,e,hd⟩,ih (fun b hb=>hs b (by unfold frs;rw[List.filterMap_cons,hf];exact List.mem_cons_of_mem _ hb)) hr⟩
 exact all X.outer (fun _ hb=>hb) I.ok.funs
theorem Inv.stack(I:Inv X pins σ H s):s.heap.FunFrames X.base X.stack:=by
 rcases I.ok.stk with e|⟨e,hf⟩
 ·rw[e];exact I.funs
 ·rw[e]
  refine X11 I.loc fun m hn _=>?_
  refine .cons (by rw[I.ok.kind];decide) hf hn ?_ I.funs
  exact Heap.get?_none_of_le (Nat.le_trans I.ok.bsz I.ok.above)
theorem Inv.stkSub(I:Inv X pins σ H s):∀b∈frs X.stack,b∈X.env.locals::X.fs:=fun b hb=>by
 rcases I.ok.stk with e|⟨e,hf⟩
 ·rw[e] at hb;exact List.mem_cons_of_mem _ hb
 ·rw[e] at hb
  unfold frs at hb
  rw[List.filterMap_cons,hf] at hb
  exact hb
theorem Inv.stkFree(I:Inv X pins σ H s):∀b∈frs X.stack,H b=none:=fun b hb=>by
 rcases List.mem_cons.mp (I.stkSub b hb) with e|hb
 ·rw[e];exact I.free
 ·refine X01 (I.ok.funs.mem hb) fun _ r14_=>?_;refine X11 r14_ fun o ho _=>?_
  exact I.base.free b o ho (I.ok.frf b hb) fun z=>I.ok.exfs b z hb
theorem Inv.step{g':Array GenState}{t':Nat}{d':Drawn}{ch:List Addr}(I:Inv X pins σ H s)
  (hch:∀b∈ch,(b∈X.ex∨X.s₀.heap.objs.size≤b)∧b≠X.env.locals∧(∀x c,X.env.cells.lookup x=some c→c≠b)∧∀p∈X.pn++pins,p.1≠b)
  (keep:∀b o,b≠X.env.locals→b∉X.fs→b∉ch→s.heap.get? b=some o→H b=none→h'.get? b=some o)
  (slot:∀b o,b≠X.env.locals→b∈X.fs→b∉ch→s.heap.get? b=some o→H b=none→∃sl,h'.get? b=some { o with slots:=sl }) (free:∀b o,b∉ch→s.heap.get? b=some o→H b=none→H' b=none)
  (there:∀b o,b∉ch→s.heap.get? b=some o→∃o',h'.get? b=some o')
  (tups:∀b xs,H b=some (.tup xs)→H' b=some (.tup xs)) (frzs:∀b o u,H b=some (.frz o u)→H' b=some (.frz o u)) (tbls:∀b ps,H b=some (.tbl ps)→∃more,H' b=some (.tbl (ps++more)))
  (ns:∀m,s.heap.Ns X.env.locals m→h'.Ns X.env.locals m) (hok:HOk X.prog X.w H' h') (hg:AllBare g') :
  Inv X pins σ H' { s with heap:=h',gens:=g',drawn:=d',toks:=t' }:=by
 have neL:∀b o,X.s₀.heap.get? b=some o→b≠X.env.locals:=fun b o e=>Nat.ne_of_lt (Nat.lt_of_lt_of_le (Heap.lt_size e) I.ok.above)
 have neC:∀b o,X.s₀.heap.get? b=some o→b∉X.ex→b∉ch:=fun b o e hx hb=>by
  rcases (hch b hb).1 with z|z
  ·exact hx z
  ·exact absurd (Nat.lt_of_lt_of_le (Heap.lt_size e) z) (Nat.lt_irrefl _)
 have cellK:∀x c,X.env.cells.lookup x=some c→∀v,s.heap.IsCell c v→h'.IsCell c v:=fun x c e v z_=>by
  refine X11 z_ fun o ho hd=>?_
  have nch:c∉ch:=fun z=>(hch c z).2.2.1 x c e rfl
  by_cases hc:c∈X.fs
  ·obtain⟨sl,q⟩:=slot c o (I.cne x c e) hc nch ho (I.freeC x c e)
   exact Y11 _ q hd
  ·exact Y11 o (keep c o (I.cne x c e) hc nch ho (I.freeC x c e)) hd
 refine⟨I.ok,I.os,hg,⟨fun b o e n hb hx=>?_,fun b o e n hb hx=>?_,fun b o e n hx=>?_,fun b o e hx=>?_,fun b xs e=>tups b xs (I.base.tups b xs e),fun b o xs e=>frzs b o xs (I.base.frzs b o xs e),fun b ps e=>?_⟩,?_,fun x c e=>?_,?_,fun x c e=>?_,fun p hp=>?_,hok,I.len⟩
 ·exact keep b o (neL b o e) hb (neC b o e hx) (I.base.keep b o e n hb hx) (I.base.free b o e n hx)
 ·obtain⟨sl,e1⟩:=I.base.slot b o e n hb hx
  obtain⟨sl',e2⟩:=slot b _ (neL b o e) hb (neC b o e hx) e1 (I.base.free b o e n hx)
  exact⟨sl',e2⟩
 ·obtain⟨o',e1⟩:=I.base.there b o e hx
  exact free b o' (neC b o e hx) e1 (I.base.free b o e n hx)
 ·obtain⟨o',e1⟩:=I.base.there b o e hx
  exact there b o' (neC b o e hx) e1
 ·obtain⟨m1,e1⟩:=I.base.tbls b ps e
  obtain⟨m2,e2⟩:=tbls b _ e1
  exact⟨m1++m2,by rw[e2,Array.append_assoc]⟩
 ·refine X11 I.loc fun m hn hl=>?_
  refine Y11 m (ns m hn) (fun i x v e1 e2 e3=>?_)
  refine X11 (hl i x v e1 e2 e3) fun u r l=>?_
  refine Y11 u r ?_
  rcases l with l|⟨k,c,e,z⟩
  ·exact .inl l
  ·exact .inr ⟨k,c,e,cellK x c e _ z⟩
 ·obtain⟨v,z⟩:=I.cell x c e
  exact⟨v,cellK x c e v z⟩
 ·obtain⟨m,⟨o,_,_,ho,_⟩,_⟩:=I.loc
  exact free _ o (fun z=>(hch _ z).2.1 rfl) ho I.free
 ·refine X21 (I.cell x c e) fun v o ho hd=>?_
  exact free c o (fun z=>(hch c z).2.2.1 x c e rfl) ho (I.freeC x c e)
 ·obtain⟨e,n,ne,nf,d⟩:=I.pin p hp
  have nch:p.1∉ch:=fun z=>(hch p.1 z).2.2.2 p hp rfl
  exact⟨keep p.1 p.2 ne nf nch e n,free p.1 p.2 nch e n,ne,nf,d⟩
theorem Inv.un{t':Nat}(I:Inv X pins σ H s)(u:Un X.fs [] H H' s.heap h')(hok:HOk X.prog X.w H' h'):Inv X pins σ H' { s with heap:=h',toks:=t' }:=by
 obtain⟨m,⟨o,es,ep,ho,r⟩,_⟩:=id I.loc
 obtain⟨sl,hL⟩:=u.any ho I.free (by simp)
 exact I.step (g':=s.gens) (d':=s.drawn) (ch:=[]) (fun _ z=>nomatch z) (fun b o _ hb _ e n=>u.keep b o e n hb (by simp)) (fun b o _ hb _ e n=>u.slot b o e n hb (by simp)) (fun b o _ e n=>u.free b o e n (by simp)) (fun b o _ e=>u.there b o e (by simp)) u.tups u.frzs u.tbls (fun m' hm=>by
  obtain⟨o',es',ep',ho',r'⟩:=hm
  rw[ho] at ho';replace ho':=sI_ ho';subst ho'
  exact⟨_,es',ep',hL,r'⟩) hok I.bare
theorem Inv.call{g':Array GenState}{t':Nat}{d':Drawn}{ch:List Addr}(I:Inv X pins σ H s)(u:Un (frs X.stack) ch H H' s.heap h')(hok:HOk X.prog X.w H' h')(hg:AllBare g')
  (hch:∀b∈ch,(b∈X.ex∨X.s₀.heap.objs.size≤b)∧b≠X.env.locals∧(∀x c,X.env.cells.lookup x=some c→c≠b)∧∀p∈X.pn++pins,p.1≠b) :
  Inv X pins σ H' { s with heap:=h',gens:=g',drawn:=d',toks:=t' }:=by
 obtain⟨m,⟨o,es,ep,ho,r⟩,_⟩:=id I.loc
 obtain⟨sl,hL⟩:=u.any ho I.free fun z=>(hch _ z).2.1 rfl
 exact I.step (ch:=ch) hch (fun b o hL hb hc e n=>u.keep b o e n (fun z=>(List.mem_cons.mp (I.stkSub b z)).elim hL hb) hc) (fun b o _ _ hc e n=>u.any e n hc) (fun b o hc e n=>u.free b o e n hc) (fun b o hc e=>u.there b o e hc) u.tups u.frzs u.tbls (fun m' hm=>by
  obtain⟨o',es',ep',ho',r'⟩:=hm
  rw[ho] at ho';replace ho':=sI_ ho';subst ho'
  exact⟨_,es',ep',hL,r'⟩) hok hg
theorem Inv.turned{t':Nat}{it:Addr}(I:Inv X pins σ H s)(k:∀b o,b≠it→s.heap.get? b=some o→h'.get? b=some o)(hn:H it=none)(hL:it≠X.env.locals)
  (h1:it∈X.ex∨X.s₀.heap.objs.size≤it) (h2:∀x c,X.env.cells.lookup x=some c→c≠it) (h3:∀p∈X.pn++pins,p.1≠it):Inv X pins σ H { s with heap:=h',toks:=t' }:=by
 have nit:∀b u,H b=some u→b≠it:=fun b u e z=>by rw[z,hn] at e;nomatch e
 refine I.step (g':=s.gens) (d':=s.drawn) (ch:=[it]) (fun b hb=>?_) (fun b o _ _ hc e _=>k b o (fun z=>hc (by simp[z])) e) (fun b o _ _ hc e _=>⟨o.slots,k b o (fun z=>hc (by simp[z])) e⟩) (fun _ _ _ _ n=>n)
  (fun b o hc e=>⟨o,k b o (fun z=>hc (by simp[z])) e⟩) (fun _ _ e=>e) (fun _ _ _ e=>e) (fun b ps e=>⟨#[],by rw[e];simp⟩) (fun m hm=>?_) (fun b u e=>?_) I.bare
 ·have e:b=it:=by simpa using hb
  subst e
  exact⟨h1,hL,h2,h3⟩
 ·obtain⟨o,es,ep,ho,r⟩:=hm
  exact⟨o,es,ep,k _ o (Ne.symm hL) ho,r⟩
 ·refine(I.hok b u e).stay (fun c v hc q=>k c v ?_ q) (fun _ q=>q) fun _ _ q=>q
  rcases hc with z|z
  ·rw[z];exact nit b u e
  ·exact nit c _ z
theorem Inv.tok(I:Inv X pins σ H s)(t:Nat):Inv X pins σ H { s with toks:=t }:=I.un (h':=s.heap) (t':=t) Un.refl I.hok
theorem Inv.kept{t':Nat}(I:Inv X pins σ H s)(k:∀b u,s.heap.get? b=some u→h'.get? b=some u):Inv X pins σ H { s with heap:=h',toks:=t' }:=I.un (Un.kept k) (I.hok.kept k)
theorem Inv.laid{a:Addr}{o:HO}{t':Nat}(I:Inv X pins σ H s)(k:∀b u,s.heap.get? b=some u→h'.get? b=some u)(hp:s.heap.objs.size≤a)(new:ObjOk X.prog X.w (upd H a o) h' a o) :
  Inv X pins σ (upd H a o) { s with heap:=h',toks:=t' }:=I.un (Un.laid k hp (I.hok.fresh hp)) (I.hok.laid k hp new)
theorem Inv.write{x e:Addr}{o:HO}{t':Nat}(I:Inv X pins σ H s)(mu:Mut (H x))(he:e=x∨H e=some (.own x))(k:∀b u,b≠e→s.heap.get? b=some u→h'.get? b=some u)(heo:∃u,h'.get? e=some u)
  (new:ObjOk X.prog X.w (upd H x o) h' x o):Inv X pins σ (upd H x o) { s with heap:=h',toks:=t' }:=I.un (Un.write mu he k heo) (I.hok.write mu he k heo new)
theorem Inv.pins_of{pins':List (Addr×Obj)}(I:Inv X pins σ H s)(h:∀p∈pins',s.heap.get? p.1=some p.2∧H p.1=none∧p.1≠X.env.locals∧p.1∉X.fs∧∀v,p.2.data≠.cell v):Inv X pins' σ H s:=
 ⟨I.ok,I.os,I.bare,I.base,I.loc,I.cell,I.free,I.freeC,fun p hp=>(List.mem_append.mp hp).elim (fun z=>I.pin p (List.mem_append_left _ z)) (h p),I.hok,I.len⟩
theorem U9{N:List Str}(hN:N.Nodup){i j:Nat}{x:Str}(a:N[i]?=some x)(b:N[j]?=some x):i=j:=by
 obtain⟨h1,e1⟩:=List.getElem?_eq_some_iff.mp a
 obtain⟨h2,e2⟩:=List.getElem?_eq_some_iff.mp b
 exact(List.getElem_inj hN).mp (e1.trans e2.symm)
theorem _root_.uI_{α:Type}{a b:α}(h:some (some a)=some (some b)):a=b:=Option.some.inj (Option.some.inj h)
theorem W2{M:Model}{A:Around}{E:Value→Shared→Prop}{i:Nat}{x:Str}{v:V}{u:Value}{Q:Unit→Shared→Prop}(I:Inv X pins σ H s)(hN:X.N.Nodup)(hi:X.N[i]?=some x)(hx:Loc X.env.scope x)(r:RelV v u)
  (h:∀s',Inv X pins (σ.set i (some v)) H s'→(∃a,Heap.SameBut a s.heap s'.heap∧(a=X.env.locals∨X.env.cells.lookup x=some a))→Q () s') (hf:X.fn x=true∨X.env.scope.names.lookup x=some .local:=by first|exact .inl rfl|exact .inr rfl|assumption):wpAny M A (storeName X.env x u) Q E s:=by
 refine X11 (id I.loc) fun m hn hl=>?_
 have hcls:(X.env.scope.kind == .class||(X.env.scope.kind == .module&&X.env.locals != X.env.globals))=false:=by rw[I.ok.kind];rfl
 have hiσ:i<σ.length:=by rw[I.len];exact(List.getElem?_eq_some_iff.mp hi).1
 have cne:=I.cne
 have tracked:∀{a:Addr} {h':Heap},(∃o,s.heap.get? a=some o∧H a=none)→Heap.SameBut a s.heap h'→HOk X.prog X.w H h':=fun {a h'} ha hs b ob e=>by
  refine X11 ha fun _ _ hfree=>?_
  refine(I.hok b ob e).stay (fun c w' hc q=>(hs.2 c ?_).trans q) (fun _ q=>q) fun _ _ q=>q
  rintro rfl
  rcases hc with rfl|hc
  ·rw[hfree] at e;nomatch e
  ·rw[hfree] at hc;nomatch hc
 rcases hx with hk|hk
 ·refine wpAny_storeName_local hk hn (fun h' hn' hs=>?_) hcls
  obtain⟨oL,_,_,hoL,_⟩:=id hn
  refine h _ ⟨I.ok,I.os,I.bare,⟨fun b o e n hb hx=>?_,fun b o e n hb hx=>?_,I.base.free,fun b o e hx=>?_,I.base.tups,I.base.frzs,I.base.tbls⟩,⟨_,hn',fun j y v' e1 e2 e3=>?_⟩,fun y c e=>?_,I.free,I.freeC,fun p hp=>?_,tracked ⟨oL,hoL,I.free⟩ hs,by simpa using I.len⟩ ⟨_,hs,.inl rfl⟩
  ·exact(hs.2 b (Nat.ne_of_lt (Nat.lt_of_lt_of_le (Heap.lt_size e) I.ok.above))).trans (I.base.keep b o e n hb hx)
  ·obtain⟨sl,e1⟩:=I.base.slot b o e n hb hx
   exact⟨sl,(hs.2 b (Nat.ne_of_lt (Nat.lt_of_lt_of_le (Heap.lt_size e) I.ok.above))).trans e1⟩
  ·obtain⟨o',e1⟩:=I.base.there b o e hx
   exact⟨o',(hs.2 b (Nat.ne_of_lt (Nat.lt_of_lt_of_le (Heap.lt_size e) I.ok.above))).trans e1⟩
  ·by_cases hj:j=i
   ·subst hj
    rw[hi] at e1;replace e1:=sI_ e1;subst e1
    rw[List.getElem?_set_self hiσ] at e2
    replace e2:=uI_ e2;subst e2
    exact Y11 u r (.inl ⟨hk,by simp⟩)
   ·rw[List.getElem?_set_ne (Ne.symm hj)] at e2
    refine X11 (hl j y v' e1 e2 e3) fun u' r' q=>?_
    refine Y11 u' r' ?_
    rcases q with ⟨k,e⟩|⟨k,c,e,z⟩
    ·refine .inl ⟨k,?_⟩
     have:y≠x:=fun e=>hj (U9 hN e1 (e ▸ hi))
     simp[this,e]
    ·exact .inr ⟨k,c,e,z.sameBut hs (cne y c e)⟩
  ·obtain⟨w',z⟩:=I.cell y c e
   exact⟨w',z.sameBut hs (cne y c e)⟩
  ·obtain⟨e,n,ne,nf,d⟩:=I.pin p hp
   exact⟨(hs.2 p.1 ne).trans e,n,ne,nf,d⟩
 ·have hfn:X.fn x=true:=by
   rcases hf with z|z
   ·exact z
   ·rw[z] at hk;nomatch hk
  obtain⟨c,hc⟩:=I.ok.has x (.inl hk)
  obtain⟨w',z⟩:=I.cell x c hc
  refine wpAny_storeName_cell I.ok.kind hk hc z (fun h' hc' hs=>?_)
  refine X11 (id z) fun oc hoc hocd=>?_
  refine h { s with heap:=h' } ⟨I.ok,I.os,I.bare,⟨fun b o e n hb hx=>?_,fun b o e n hb hx=>?_,I.base.free,fun b o e hx=>?_,I.base.tups,I.base.frzs,I.base.tbls⟩,⟨m,hn.sameBut hs (Ne.symm (cne x c hc)),fun j y v' e1 e2 e3=>?_⟩,fun y c' e=>?_,I.free,I.freeC,fun p hp=>?_,tracked ⟨oc,hoc,I.freeC x c hc⟩ hs,by simpa using I.len⟩ ⟨c,hs,.inr hc⟩
  ·exact(hs.2 b (Nat.ne_of_lt (Nat.lt_of_lt_of_le (Heap.lt_size e) (I.ok.cab x c hfn hc)))).trans (I.base.keep b o e n hb hx)
  ·obtain⟨sl,e1⟩:=I.base.slot b o e n hb hx
   exact⟨sl,(hs.2 b (Nat.ne_of_lt (Nat.lt_of_lt_of_le (Heap.lt_size e) (I.ok.cab x c hfn hc)))).trans e1⟩
  ·obtain⟨o',e1⟩:=I.base.there b o e hx
   exact⟨o',(hs.2 b (Nat.ne_of_lt (Nat.lt_of_lt_of_le (Heap.lt_size e) (I.ok.cab x c hfn hc)))).trans e1⟩
  ·by_cases hj:j=i
   ·subst hj
    rw[hi] at e1;replace e1:=sI_ e1;subst e1
    rw[List.getElem?_set_self hiσ] at e2
    replace e2:=uI_ e2;subst e2
    exact Y11 u r (.inr ⟨.inl hk,c,hc,hc'⟩)
   ·rw[List.getElem?_set_ne (Ne.symm hj)] at e2
    refine X11 (hl j y v' e1 e2 e3) fun u' r' q=>?_
    refine Y11 u' r' ?_
    rcases q with q|⟨k,c',e,z'⟩
    ·exact .inl q
    ·refine .inr ⟨k,c',e,z'.sameBut hs ?_⟩
     rintro rfl
     exact hj (U9 hN e1 (I.ok.inj _ _ _ e hc ▸ hi))
  ·by_cases hcc:c'=c
   ·subst hcc;exact⟨_,hc'⟩
   ·obtain⟨w2,z2⟩:=I.cell y c' e
    exact⟨w2,z2.sameBut hs hcc⟩
  ·obtain⟨e,n,ne,nf,d⟩:=I.pin p hp
   refine⟨(hs.2 p.1 ?_).trans e,n,ne,nf,d⟩
   intro q
   rw[q,hoc] at e
   have q':oc=p.2:=Option.some.inj e
   exact d w' (by rw[← q'];exact hocd)
theorem UJ{M:Model}{A:Around}{E:Value→Shared→Prop}{i:Nat}{x:Str}{v:V}{u:Value}{Q:Unit→Shared→Prop}(I:Inv X pins σ H s)(hN:X.N.Nodup)(hi:X.N[i]?=some x)(hx:Loc X.env.scope x)(r:RelV v u)
  (h:∀s',Inv X pins (σ.set i (some v)) H s'→Q () s') (hf:X.fn x=true∨X.env.scope.names.lookup x=some .local:=by first|exact .inl rfl|exact .inr rfl|assumption):wpAny M A (storeName X.env x u) Q E s:=
 W2 I hN hi hx r (fun s' I' _=>h s' I') hf
theorem Inv.call'{s':Shared}{ch:List Addr}(I:Inv X pins σ H s)(ho:s'.os=s.os)(u:Un (frs X.stack) ch H H' s.heap s'.heap)(hok:HOk X.prog X.w H' s'.heap)(hg:AllBare s'.gens)
  (hch:∀b∈ch,(b∈X.ex∨X.s₀.heap.objs.size≤b)∧b≠X.env.locals∧(∀x c,X.env.cells.lookup x=some c→c≠b)∧∀p∈X.pn++pins,p.1≠b):Inv X pins σ H' s':=by
 obtain⟨h',g',d',t',o'⟩:=s'
 have e:o'=s.os:=ho
 subst e
 exact I.call (g':=g') (t':=t') (d':=d') u hok hg hch
end
noncomputable abbrev XK:=Value→Option Addr→Hp→Prop
noncomputable abbrev St:=List (Option V)
noncomputable abbrev VK:=V→Hp→Prop
noncomputable abbrev TE:=St→Hp→VK→Prop
noncomputable abbrev TT:=St→Hp→(Bool→Hp→Prop)→Prop
noncomputable abbrev TA:=St→Hp→(List V→Hp→Prop)→Prop
structure WT where
 nx:St→Hp→Prop
 rt:VK
 bk:St→Hp→Prop:=fun _ _=>False
 ct:St→Hp→Prop:=fun _ _=>False
noncomputable abbrev TS:=WT→St→Hp→Prop
noncomputable def EP(X:Cx)(pins:List (Addr×Obj))(σ:St)(Q:VK)(u:Value)(s':Shared):Prop:=∃v H',Inv X pins σ H' s'∧RelV v u∧Q v H'
noncomputable def TP(X:Cx)(pins:List (Addr×Obj))(σ:St)(Q:Bool→Hp→Prop)(b:Bool)(s':Shared):Prop:=∃H',Inv X pins σ H' s'∧Q b H'
noncomputable def AP(X:Cx)(pins:List (Addr×Obj))(σ:St)(Q:List V→Hp→Prop)(us:List Value)(s':Shared):Prop:=∃vs H',Inv X pins σ H' s'∧Vals vs us∧Q vs H'
noncomputable def SP(X:Cx)(pins:List (Addr×Obj))(D:WT)(f:Flow)(s':Shared):Prop:=
 match f with
 |.next=>∃σ' H',Inv X pins σ' H' s'∧D.nx σ' H'
 |.brk=>∃σ' H',Inv X pins σ' H' s'∧D.bk σ' H'
 |.cont=>∃σ' H',Inv X pins σ' H' s'∧D.ct σ' H'
 |.ret u=>∃v σ' H',Inv X pins σ' H' s'∧RelV v u∧D.rt v H'
noncomputable def PE(X:Cx)(e:Expr)(t:TE):Prop:=
 ∀(pins:List (Addr×Obj)) (s:Shared) (σ:St) (H:Hp) (Q:VK),Inv X pins σ H s→t σ H Q→wpAny (model X.prog X.w) X.A (eval e X.env) (EP X pins σ Q) X.xe s
noncomputable def PT(X:Cx)(e:Expr)(t:TT):Prop:=
 ∀(pins:List (Addr×Obj)) (s:Shared) (σ:St) (H:Hp) (Q:Bool→Hp→Prop),Inv X pins σ H s→t σ H Q→wpAny (model X.prog X.w) X.A (isTrue e X.env (eval e X.env)) (TP X pins σ Q) X.xe s
noncomputable def PW(X:Cx)(e:Expr)(t:TT):Prop:=
 ∀(whole:Sem Value) (pins:List (Addr×Obj)) (s:Shared) (σ:St) (H:Hp) (Q:Bool→Hp→Prop),Inv X pins σ H s→t σ H Q→wpAny (model X.prog X.w) X.A (isTrue e X.env whole) (TP X pins σ Q) X.xe s
theorem PW.pt{X:Cx}{e:Expr}{t:TT}(h:PW X e t):PT X e t:=h _
noncomputable def PA(X:Cx)(es:List Expr)(t:TA):Prop:=
 ∀(pos:Pos) (pins:List (Addr×Obj)) (s:Shared) (σ:St) (H:Hp) (Q:List V→Hp→Prop),Inv X pins σ H s→t σ H Q→wpAny (model X.prog X.w) X.A (spliced (backTo pos (starEach es X.env))) (AP X pins σ Q) X.xe s
noncomputable def PS(X:Cx)(st:Stmt)(t:TS):Prop:=
 ∀(pins:List (Addr×Obj)) (s:Shared) (σ:St) (H:Hp) (D:WT),Inv X pins σ H s→t D σ H→wpAny (model X.prog X.w) X.A (exec st X.env) (SP X pins D) X.xe s
noncomputable def PSs(X:Cx)(st:List Stmt)(t:TS):Prop:=
 ∀(pins:List (Addr×Obj)) (s:Shared) (σ:St) (H:Hp) (D:WT),Inv X pins σ H s→t D σ H→wpAny (model X.prog X.w) X.A (execs st X.env) (SP X pins D) X.xe s
theorem thn{α:Type}{t:Sem α}{Q Q':α→Shared→Prop}{M:Model}{A:Around}{E:Value→Shared→Prop}{s:Shared}(h:wpAny M A t Q E s)(hQ:∀a s,Q a s→Q' a s):wpAny M A t Q' E s:=wpAny_mono h hQ fun _ _ x=>x
section
variable{X:Cx}
noncomputable def xf(i:Nat):TE:=fun σ H Q=>∃v,σ[i]?=some (some v)∧Q v H
noncomputable def tC(v:V):TE:=fun _ H Q=>Q v H
theorem zo9{i:Nat}{x:Str}{pos:Pos}(hN:X.N[i]?=some x)(hv:Vis X.env.scope x)(hd:(x==("__debug__" : Str))=false:=by decide)(hcd:(x==("__classdict__" : Str))=false:=by decide):PE X (.Name x pos) (xf i):=by
 intro pins s σ H Q I h
 obtain⟨v,e,h⟩:=h
 refine X11 I.loc fun m hn hl=>?_
 refine X11 (hl i x v hN e hv) fun u r l=>?_
 have fin:EP X pins σ Q u s:=⟨v,H,I,r,h⟩
 rcases l with ⟨hk,hm⟩|⟨hk,c,hc,hcell⟩
 ·exact wpAny_Name (wpAny_loadName_local I.ok.kind hk hn hm fin) hd
 ·rcases hk with hk|hk
  ·exact wpAny_Name (wpAny_loadName_cell I.ok.kind hk hc hcell fin) hd
  ·exact wpAny_Name (wpAny_loadName_free I.ok.kind hk hc hcell fin hcd) hd
theorem zp4{i j pos}:PE X (.Constant (.int i) j pos) (tC (.int i)):=fun _ _ _ H _ I h=>wpAny_Constant_int ⟨.int i,H,I.tok _,⟨_,rfl⟩,h⟩
theorem pe_bl{b j pos}:PE X (.Constant (.bool b) j pos) (tC (.bl b)):=fun _ _ _ H _ I h=>Constant_bool ⟨.bl b,H,I,rfl,h⟩
theorem zp3{j pos}:PE X (.Constant .none j pos) (tC .non):=fun _ _ _ H _ I h=>Constant_none ⟨.non,H,I,rfl,h⟩
theorem zp1{x j pos}:PE X (.Constant (.str x) j pos) (tC (.str x)):=fun _ _ _ H _ I h=>Calls.Constant_str ⟨.str x,H,I.tok _,⟨_,rfl⟩,h⟩
noncomputable def Gl(X:Cx)(x:Str):Prop:=X.env.kindOf x=some .globalImplicit
theorem Uf{E:Value→Shared→Prop}{pins:List (Addr×Obj)}{s:Shared}{σ:St}{H:Hp}{x:Str}{u:Value}{pos:Pos}{Q:Value→Shared→Prop}(I:Inv X pins σ H s)(hg:Gl X x)(hm:X.mg x=some u)(h:Q u s)
  (hd:(x==("__debug__" : Str))=false:=by decide):wpAny (model X.prog X.w) X.A (eval (.Name x pos) X.env) Q E s:=
 Calls.Name_function_global I.ok.kind hg (Calls.loadGlobal_global (by rw[I.ok.glob];exact I.mod.glob.keeps I.bk) hm h) hd
theorem ja{E:Value→Shared→Prop}{pins:List (Addr×Obj)}{s:Shared}{σ:St}{H:Hp}{x:Str}{u:Value}{pos:Pos}{Q:Value→Shared→Prop}(I:Inv X pins σ H s)(hg:Gl X x)(hm:X.mg x=none)(hv:bootBuiltins x=some u)(h:Q u s)
  (hn:x ≠ "__name__" := by decide) (hd:(x==("__debug__" : Str))=false:=by decide):wpAny (model X.prog X.w) X.A (eval (.Name x pos) X.env) Q E s:=by
 refine X11 I.mod.blt fun mb h1 h2=>?_
 exact Calls.Name_function_global I.ok.kind hg (Calls.loadGlobal_builtin (by rw[I.ok.glob];exact I.mod.glob.keeps I.bk) hm (by rw[I.ok.blt];exact h1.keeps I.bk) ((h2 x hn).trans hv) h) hd
theorem ze5{x:Str}{v:V}{u:Value}{pos:Pos}(hg:Gl X x)(hm:X.mg x=some u)(r:RelV v u)(hd:(x==("__debug__" : Str))=false:=by decide):PE X (.Name x pos) (tC v):=
 fun _ _ _ H _ I h=>Uf I hg hm ⟨v,H,I,r,h⟩ hd
variable{a b:Expr}{ta tb:TE}{pos:Pos}
noncomputable def tB(t:TE):TT:=fun σ H Q=>t σ H fun x H1=>∃c,x=.bl c∧Q c H1
variable{tA tB':TT}{rest:List Expr}
noncomputable def tAnd(t u:TT):TT:=fun σ H Q=>t σ H fun c H1=>if c=true then u σ H1 Q else Q false H1
noncomputable def tOr(t u:TT):TT:=fun σ H Q=>t σ H fun c H1=>if c=true then Q true H1 else u σ H1 Q
noncomputable def tNot(t:TT):TT:=fun σ H Q=>t σ H fun c H1=>Q (!c) H1
theorem zd5(ha:PT X a tA):PW X (.BoolOp .And [a] pos) tA:=by
 intro wh pins s σ H Q I h
 refine isTrue_and (thn (ha pins s σ H Q I h) fun c s1 e=>?_)
 cases c with
 |true=>exact isTrue_and_nil e
 |false=>exact e
theorem Tx(ha:PT X a tA):PW X (.BoolOp .Or [a] pos) tA:=by
 intro wh pins s σ H Q I h
 refine isTrue_or (thn (ha pins s σ H Q I h) fun c s1 e=>?_)
 cases c with
 |false=>exact isTrue_or_nil e
 |true=>exact e
theorem zo1(ha:PT X a tA)(hb:PW X (.BoolOp .And (b::rest) pos) tB'):PW X (.BoolOp .And (a::b::rest) pos) (tAnd tA tB'):=by
 intro wh pins s σ H Q I h
 refine isTrue_and (thn (ha pins s σ H _ I h) fun c s1 z_=>?_)
 refine X11 z_ fun H1 I1 q1=>?_
 cases c with
 |true=>exact hb wh pins s1 σ H1 Q I1 q1
 |false=>exact Y11 H1 I1 q1
theorem zl5(ha:PT X a tA)(hb:PW X (.BoolOp .Or (b::rest) pos) tB'):PW X (.BoolOp .Or (a::b::rest) pos) (tOr tA tB'):=by
 intro wh pins s σ H Q I h
 refine isTrue_or (thn (ha pins s σ H _ I h) fun c s1 z_=>?_)
 refine X11 z_ fun H1 I1 q1=>?_
 cases c with
 |true=>exact Y11 H1 I1 q1
 |false=>exact hb wh pins s1 σ H1 Q I1 q1
theorem zo2(ha:PT X a tA):PT X (.UnaryOp .Not a pos) (tNot tA):=by
 intro pins s σ H Q I h
 exact isTrue_not (ha pins s σ H (fun c H1=>Q (!c) H1) I h)
theorem zp2{op}{t:TE}(h:PE X a t):PE X (.BoolOp op [a] pos) t:=fun pins s σ H Q I hw=>BoolOp_one (h pins s σ H Q I hw)
noncomputable def tIf(t:TT)(ta tb:TE):TE:=fun σ H Q=>t σ H fun c H1=>if c=true then ta σ H1 Q else tb σ H1 Q
theorem TJ{c:Expr}(hc:PT X c tA)(ha:PE X a ta)(hb:PE X b tb):PE X (.IfExp c a b pos) (tIf tA ta tb):=by
 intro pins s σ H Q I h
 refine wpAny_IfExp (thn (hc pins s σ H _ I h) fun d s1 z_=>?_)
 refine X11 z_ fun H1 I1 q1=>?_
 cases d with
 |true=>exact ha pins s1 σ H1 Q I1 q1
 |false=>exact hb pins s1 σ H1 Q I1 q1
end
noncomputable def SqL(K:Frag)(H:Hp)(a:Addr)(xs:List V):Prop:=
 Rd H a (.lst xs) ∨
  ∃(o:Obj) (its:Array Value) (n:Nat),K.lookup a=some o∧o.cls=.type "list" ∧ o.dict=none∧o.data=.seq its n∧its.size≤sizeLine∧Vals xs its.toList
noncomputable def SqT(K:Frag)(H:Hp)(a:Addr)(xs:List V):Prop:=
 Rd H a (.tup xs) ∨
  ∃(o:Obj) (its:Array Value) (n:Nat),K.lookup a=some o∧o.cls=.type "tuple" ∧ o.data=.seq its n∧its.size≤sizeLine∧Vals xs its.toList
noncomputable def absV:Value→Option V
 |.none=>some .non
 |.bool b=>some (.bl b)
 |.int i _=>some (.int i)
 |.str x _=>some (.str x)
 |.bytes b _=>some (.byt b)
 |.float b _=>some (.flt b)
 |.ref a=>some (.ref a)
 |.type n=>some (.ty n)
 |_=>none
theorem RelV.abs{x:V}{u:Value}(r:RelV x u):absV u=some x:=by
 cases x with
 |non=>cases r;rfl
 |bl _=>cases r;rfl
 |int _=>obtain⟨t,rfl⟩:=r;rfl
 |str _=>obtain⟨t,rfl⟩:=r;rfl
 |byt _=>obtain⟨t,rfl⟩:=r;rfl
 |flt _=>obtain⟨t,rfl⟩:=r;rfl
 |ref _=>cases r;rfl
 |ty _=>cases r;rfl
theorem RelV.inj{x y:V}{u:Value}(r:RelV x u)(q:RelV y u):x=y:=Option.some.inj (r.abs.symm.trans q.abs)
theorem Vals.inj:∀{xs ys:List V} {us:List Value},Vals xs us→Vals ys us→xs=ys
 |_,_,_,.nil,.nil=>rfl
 |_,_,_,.cons r t,.cons r' t'=>by rw[r.inj r',Vals.inj t t']
section
variable{X:Cx}{pins:List (Addr×Obj)}{σ:St}{H:Hp}{s:Shared}{a:Addr}{xs ys:List V}
theorem SqL.of{K:Frag}(h:H a=some (.lst xs)):SqL K H a xs:=.inl (.inl h)
theorem SqT.of{K:Frag}(h:H a=some (.tup xs)):SqT K H a xs:=.inl (.inl h)
theorem Inv.list(I:Inv X pins σ H s)(h:SqL X.K H a xs):∃its:List Value,Vals xs its∧PlainL s.heap a its.toArray∧xs.length≤sizeLine:=by
 rcases h with h|⟨o,its,n,hk,hc,hd,hs,hz,r⟩
 ·refine X01 (h.ok I.hok) fun z r15_=>?_;refine X21 r15_ fun its n r e=>?_
  exact Y12 its r ⟨_,n,e,rfl,rfl,rfl⟩ z
 ·refine Y12 its.toList r ⟨o,n,I.kIn a o hk,hc,hd,by simpa using hs⟩ ?_
  have e:=r.length
  simp only[length_toList] at e
  lia
theorem Inv.tuple(I:Inv X pins σ H s)(h:SqT X.K H a xs):∃its:List Value,Vals xs its∧IsTup s.heap a its.toArray∧xs.length≤sizeLine:=by
 rcases h with h|⟨o,its,n,hk,hc,hs,hz,r⟩
 ·refine X01 (h.ok I.hok) fun z r16_=>?_;refine X11 r16_ fun its r p=>?_
  exact Y12 its r p z
 ·refine Y12 its.toList r ⟨o,I.kIn a o hk,hc,n,by simpa using hs⟩ ?_
  have e:=r.length
  simp only[length_toList] at e
  lia
theorem Inv.list_inj(I:Inv X pins σ H s)(h:SqL X.K H a xs)(h':SqL X.K H a ys):xs=ys:=by
 obtain⟨its,r,⟨o,n,e,_,_,d⟩,_⟩:=I.list h
 obtain⟨its',r',⟨o',n',e',_,_,d'⟩,_⟩:=I.list h'
 rw[e] at e';replace e':=sI_ e';subst e'
 rw[d] at d'
 injection d' with d1 _
 have:its=its':=by simpa using congrArg Array.toList d1
 subst this
 exact r.inj r'
theorem Inv.tuple_inj(I:Inv X pins σ H s)(h:SqT X.K H a xs)(h':SqT X.K H a ys):xs=ys:=by
 obtain⟨its,r,⟨o,e,_,n,d⟩,_⟩:=I.tuple h
 obtain⟨its',r',⟨o',e',_,n',d'⟩,_⟩:=I.tuple h'
 rw[e] at e';replace e':=sI_ e';subst e'
 rw[d] at d'
 injection d' with d1 _
 have:its=its':=by simpa using congrArg Array.toList d1
 subst this
 exact r.inj r'
end
noncomputable abbrev Cx.wish(X:Cx)(E:Value→Shared→Prop):Cx:={ X with xe:=E }
noncomputable abbrev Cx.nox(X:Cx):Cx:=X.wish fun _ _=>False
theorem Cx.Ok.wish{X:Cx}(ok:X.Ok)(E:Value→Shared→Prop):(X.wish E).Ok:=
 ⟨ok.mod,ok.kind,ok.glob,ok.blt,ok.above,ok.inj,ok.has,ok.cab,ok.hd,ok.frames,ok.stk,ok.exf,ok.bs,ok.bsz,ok.noex,ok.exfs,ok.funs,ok.frf⟩
theorem Cx.Ok.unwish{X:Cx}{E:Value→Shared→Prop}(ok:(X.wish E).Ok):X.Ok:=
 ⟨ok.mod,ok.kind,ok.glob,ok.blt,ok.above,ok.inj,ok.has,ok.cab,ok.hd,ok.frames,ok.stk,ok.exf,ok.bs,ok.bsz,ok.noex,ok.exfs,ok.funs,ok.frf⟩
section
variable{X:Cx}{pins:List (Addr×Obj)}{σ:St}{H:Hp}{s:Shared}{E:Value→Shared→Prop}
theorem Inv.wish(I:Inv X pins σ H s)(E:Value→Shared→Prop):Inv (X.wish E) pins σ H s:=⟨I.ok.wish E,I.os,I.bare,I.base,I.loc,I.cell,I.free,I.freeC,I.pin,I.hok,I.len⟩
theorem Inv.unwish(I:Inv (X.wish E) pins σ H s):Inv X pins σ H s:=⟨I.ok.unwish,I.os,I.bare,I.base,I.loc,I.cell,I.free,I.freeC,I.pin,I.hok,I.len⟩
theorem SP.unwish{D:WT}{f:Flow}{s':Shared}(h:SP (X.wish E) pins D f s'):SP X pins D f s':=by
 cases f with
 |next=>refine X21 h fun σ' H' I q=>?_;exact Y21 σ' H' I.unwish q
 |brk=>refine X21 h fun σ' H' I q=>?_;exact Y21 σ' H' I.unwish q
 |cont=>refine X21 h fun σ' H' I q=>?_;exact Y21 σ' H' I.unwish q
 |ret u=>obtain⟨v,σ',H',I,r,q⟩:=h;exact⟨v,σ',H',I.unwish,r,q⟩
theorem PSs.nox{st:List Stmt}{t:TS}(h:PSs X.nox st t):PSs X st t:=fun pins s σ H D I hw=>
 wpAny_mono (h pins s σ H D (I.wish _) hw) (fun _ _ q=>q.unwish) fun _ _ z=>False.elim z
end
section
variable{X:Cx}{st:Stmt}{rest:List Stmt}{t u:TS}{e:Expr}{te:TE}{pos:Pos}
noncomputable def tNext:TS:=fun D σ H=>D.nx σ H
noncomputable def tSeq(t u:TS):TS:=fun D σ H=>t { D with nx:=u D } σ H
theorem zd8:PSs X [] tNext:=fun _ _ σ H _ I h=>wpAny_execs_nil ⟨σ,H,I,h⟩
theorem ZP(h1:PS X st t)(h2:PSs X rest u):PSs X (st::rest) (tSeq t u):=by
 intro pins s σ H D I h
 refine wpAny_execs_cons (thn (h1 pins s σ H { D with nx:=u D } I h) fun f s1 q=>?_)
 cases f with
 |next=>
  obtain⟨σ',H',I',q⟩:=q
  exact h2 pins s1 σ' H' D I' q
 |ret v=>exact q
 |brk=>exact q
 |cont=>exact q
theorem zd7(h1:PS X st t):PSs X [st] t:=by
 intro pins s σ H D I h
 refine wpAny_execs_cons (thn (h1 pins s σ H D I h) fun f s1 q=>?_)
 cases f with
 |next=>exact wpAny_execs_nil q
 |ret v=>exact q
 |brk=>exact q
 |cont=>exact q
noncomputable def zn6:TS:=fun D σ H=>D.bk σ H
theorem TF:PS X (.Break pos) zn6:=fun _ _ σ H _ I h=>wpAny_Break ⟨σ,H,I,h⟩
theorem Inv.quiet{pins:List (Addr×Obj)}{σ:St}{H:Hp}{s:Shared}(I:Inv X pins σ H s):interactive X.env=false:=by simp[interactive,I.ok.kind]
noncomputable def tDrop(te:TE):TS:=fun D σ H=>te σ H fun _ H1=>D.nx σ H1
theorem jT(he:PE X e te)(hs:swapsWith e none pos.line X.env=pure false:=by rfl):PS X (.Expr e pos) (tDrop te):=by
 intro pins s σ H D I h
 exact wpAny_Expr_any (thn (he pins s σ H _ I h) fun v s1 ⟨x,H1,I1,r1,q1⟩=>⟨σ,H1,I1,q1⟩) I.quiet hs
noncomputable def tRet(te:TE):TS:=fun D σ H=>te σ H D.rt
theorem VX(he:PE X e te):PS X (.Return (some e) pos) (tRet te):=by
 intro pins s σ H D I h
 exact wpAny_Return_some (thn (he pins s σ H _ I h) fun v s1 ⟨x,H1,I1,r1,q1⟩=>⟨x,σ,H1,I1,r1,q1⟩)
noncomputable def tIfS(c:TT)(t u:TS):TS:=fun D σ H=>c σ H fun b H1=>if b=true then t D σ H1 else u D σ H1
theorem zl6{c:Expr}{a b:List Stmt}{tc:TT}(hc:PT X c tc)(ha:PSs X a t)(hb:PSs X b u):PS X (.If c a b pos) (tIfS tc t u):=by
 intro pins s σ H D I h
 refine wpAny_If (thn (hc pins s σ H _ I h) fun d s1 z_=>?_)
 refine X11 z_ fun H1 I1 q1=>?_
 cases d with
 |true=>exact ha pins s1 σ H1 D I1 q1
 |false=>exact hb pins s1 σ H1 D I1 q1
noncomputable def zn4:TS:=fun _ _ _=>False
theorem TD:PS X st zn4:=fun _ _ _ _ _ _ h=>h.elim
end
noncomputable abbrev TG:=V→St→Hp→(St→Hp→Prop)→Prop
noncomputable abbrev TGs:=List V→St→Hp→(St→Hp→Prop)→Prop
noncomputable def PG(X:Cx)(target:Expr)(t:TG):Prop:=
 ∀(pins:List (Addr×Obj)) (s:Shared) (σ:St) (H:Hp) (v:V) (u:Value) (Q:St→Hp→Prop),Inv X pins σ H s→RelV v u→t v σ H Q →
  wpAny (model X.prog X.w) X.A (assign target X.env u) (fun _ s'=>∃σ' H',Inv X pins σ' H' s'∧Q σ' H') X.xe s
noncomputable def PGs(X:Cx)(ts:List Expr)(t:TGs):Prop:=
 ∀(pins:List (Addr×Obj)) (s:Shared) (σ:St) (H:Hp) (vs:List V) (us:List Value) (Q:St→Hp→Prop),Inv X pins σ H s→Vals vs us→t vs σ H Q →
  wpAny (model X.prog X.w) X.A (assignInOrder ((assignEach ts X.env).map (·.2)) us) (fun _ s'=>∃σ' H',Inv X pins σ' H' s'∧Q σ' H') X.xe s
noncomputable abbrev zv7:=V→V→V→Hp→(Hp→Prop)→Prop
noncomputable def PSet(X:Cx)(t:zv7):Prop:=
 ∀(pins:List (Addr×Obj)) (s:Shared) (σ:St) (H:Hp) (o i v:V) (ov iv u:Value) (Q:Hp→Prop),Inv X pins σ H s→RelV o ov→RelV i iv→RelV v u→t o i v H Q →
  wpAny (model X.prog X.w) X.A (setItem ov iv u) (fun _ s'=>∃H',Inv X pins σ H' s'∧Q H') X.xe s
section
variable{X:Cx}{pos:Pos}
noncomputable def Zc(i:Nat):TG:=fun v σ H Q=>Q (σ.set i (some v)) H
theorem Xh{i:Nat}{x:Str}(hN:X.N.Nodup)(hi:X.N[i]?=some x)(hx:Loc X.env.scope x)(hf:X.fn x=true∨X.env.scope.names.lookup x=some .local:=by first|exact .inl rfl|exact .inr rfl|assumption):PG X (.Name x pos) (Zc i):=by
 intro pins s σ H v u Q I r h
 exact wpAny_assign_Name (UJ I hN hi hx r (fun s' I'=>⟨_,H,I',h⟩) hf)
noncomputable def gNil:TGs:=fun vs σ H Q=>vs=[]∧Q σ H
noncomputable def gCons(t:TG)(u:TGs):TGs:=fun vs σ H Q=>∃v r,vs=v::r∧t v σ H fun σ' H'=>u r σ' H' Q
theorem ze3:PGs X [] gNil:=by
 intro pins s σ H vs us Q I r h
 obtain⟨e,h⟩:=h
 subst e
 cases r
 exact assignInOrder_nil ⟨σ,H,I,h⟩
theorem UT{e:Expr}{es:List Expr}{t:TG}{u:TGs}(h1:PG X e t)(h2:PGs X es u)
  (hs:(assignEach (e::es) X.env).map (·.2)=assign e X.env::(assignEach es X.env).map (·.2):=by rfl):PGs X (e::es) (gCons t u):=by
 intro pins s σ H vs us Q I r h
 obtain⟨v,vr,e1,h⟩:=h
 subst e1
 cases r with
 |cons r rr=>
  rw[hs]
  refine assignInOrder_cons (thn (h1 pins s σ H _ _ _ I r h) fun _ s1 z_=>?_)
  refine X21 z_ fun σ1 H1 I1 q1=>?_
  exact h2 pins s1 σ1 H1 _ _ Q I1 rr q1
noncomputable def gTup(K:Frag)(n:Nat)(t:TGs):TG:=fun v σ H Q=>∃a xs,v=.ref a∧SqT K H a xs∧xs.length=n∧t xs σ H Q
theorem zo7{es:List Expr}{k:Nat}{t:TGs}{n:Nat}(hc:X.calm=true)(h:PGs X es t)
  (hn:(assignEach es X.env).length=n:=by rfl) (hst:(assignEach es X.env).findIdx? (·.1)=none:=by rfl):PG X (.Tuple es k pos) (gTup X.K n t):=by
 intro pins s σ H v u Q I r hw
 obtain⟨a,xs,e1,hq,hl,hw⟩:=hw
 subst e1
 cases r
 refine X12 (I.tuple hq) fun its rv ht hz=>?_
 refine assign_Tuple_tuple (I.ok.hd hc) ht (by simp[hn,← hl,rv.length]) hst fun h' hx=>?_
 have I1:Inv X pins σ H { s with heap:=h' }:=I.kept (t':=s.toks) fun b o e=>hx b o (Nat.ne_of_lt (Heap.lt_size e)) e
 exact h pins _ σ H xs _ Q I1 (by simpa using rv) hw
noncomputable def gSub(to ti:TE)(t:zv7):TG:=fun v σ H Q=>to σ H fun o H1=>ti σ H1 fun i H2=>t o i v H2 fun H3=>Q σ H3
theorem zo8{o i:Expr}{to ti:TE}{t:zv7}(ho:PE X o to)(hi:PE X i ti)(hs:PSet X t)
  (ha:∀v,assign (.Subscript o i pos) X.env v=(do
   let ov ← holding [v] (eval o X.env)
   let iv ← holding [v,ov] (eval i X.env)
   standAt pos
   holding [v,ov,iv] (setItem ov iv v)
   release [v,ov,iv] []):=by intro _;rfl):PG X (.Subscript o i pos) (gSub to ti t):=by
 intro pins s σ H v u Q I r h
 rw[ha]
 refine wpAny_bind (wpAny_holding (thn (ho pins s σ H _ I h) fun ov s1 z_=>?_))
 refine X22 z_ fun x H1 I1 r1 q1=>?_
 refine wpAny_bind (wpAny_holding (thn (hi pins s1 σ H1 _ I1 q1) fun iv s2 z_=>?_))
 refine X22 z_ fun y H2 I2 r2 q2=>?_
 refine wpAny_bind (wpAny_standAt (wpAny_bind (wpAny_holding (thn (hs pins s2 σ H2 x y v ov iv u _ I2 r1 r2 r q2) fun _ s3 z_=>?_))))
 refine X11 z_ fun H3 I3 q3=>?_
 exact wpAny_release ⟨σ,H3,I3,q3⟩
noncomputable def zn7(te:TE)(g:TG):TS:=fun D σ H=>te σ H fun x H1=>g x σ H1 D.nx
theorem zo4{tg e:Expr}{te:TE}{g:TG}(he:PE X e te)(hg:PG X tg g)(hs:swapsWithSole [tg] e pos.line X.env=pure false:=by rfl)(hw:swappedStores [tg] e X.env=pure none:=by rfl)
  (h1:(assignEach [tg] X.env).map (·.2)=[assign tg X.env]:=by rfl):PS X (.Assign [tg] e pos) (zn7 te g):=by
 intro pins s σ H D I h
 refine wpAny_Assign_stores (thn (he pins s σ H _ I h) fun v s1 z_=>?_) hs hw
 refine X22 z_ fun x H1 I1 r1 q1=>?_
 rw[h1]
 exact thn (hg pins s1 σ H1 x v _ I1 r1 q1) fun _ s2 q=>q
theorem VW{i:Nat}{x:Str}{e:Expr}{te:TE}{pos':Pos}(hN:X.N.Nodup)(hi:X.N[i]?=some x)(hx:Loc X.env.scope x)(he:PE X e te)(hs:swapsWith e (some (.Name x pos')) pos.line X.env=pure false:=by rfl)(hf:X.fn x=true∨X.env.scope.names.lookup x=some .local:=by first|exact .inl rfl|exact .inr rfl|assumption) :
  PS X (.Assign [.Name x pos'] e pos) (zn7 te (Zc i)):=by
 intro pins s σ H D I h
 refine wpAny_Assign_Name (thn (he pins s σ H _ I h) fun v s1 z_=>?_) hs
 refine X22 z_ fun y H1 I1 r1 q1=>?_
 exact UJ I1 hN hi hx r1 (fun s2 I2=>⟨_,H1,I2,q1⟩) hf
end
section
variable{X:Cx}{pos:Pos}
end
structure It where
 go:Nat→Hp→Prop
 yld:Nat→Hp→V→Hp→Prop
 stop:Nat→Hp→Prop
noncomputable def WS(X:Cx)(pins:List (Addr×Obj))(H:Hp)(b:Addr):Prop:=
 H b=none∧b≠X.env.locals∧b∉X.fs∧(b∈X.ex∨X.s₀.heap.objs.size≤b)∧(∀x c,X.env.cells.lookup x=some c→c≠b)∧∀p∈X.pn++pins,p.1≠b
theorem Inv.fpOk{X:Cx}{pins:List (Addr×Obj)}{σ:St}{H H':Hp}{s:Shared}{b:Addr}(I:Inv X pins σ H s)(hb:s.heap.objs.size≤b)(hn:H' b=none):WS X pins H' b:=by
 refine⟨hn,Nat.ne_of_gt (Nat.lt_of_lt_of_le I.lt hb),I.nofs hb,.inr (Nat.le_trans I.sz hb),fun x c e z=>?_,fun p hp z=>?_⟩
 ·obtain⟨v,q⟩:=I.cell x c e
  exact absurd (Nat.lt_of_lt_of_le q.lt (by rw[z];exact hb)) (Nat.lt_irrefl _)
 ·exact absurd (Nat.lt_of_lt_of_le (Heap.lt_size (I.pin p hp).1) (by rw[z];exact hb)) (Nat.lt_irrefl _)
structure Ux(P:Program)(w:World)(K:Frag)(tg:Expr)(J:It)(fp:List Addr)(it:Addr)(tn:Nat→Heap→Prop):Prop where
 mem:it∈fp
 obj:∀i h,tn i h→∀b∈fp,∃o,h.get? b=some o∧∀v,o.data≠.cell v
 keep:∀i h h',tn i h→(∀b∈fp,∀o,h.get? b=some o→h'.get? b=some o)→tn i h'
 item:∀(X:Cx),X.prog=P→X.w=w→X.K=K→X.calm=true→∀(i:Nat) (pins:List (Addr×Obj)) (s:Shared) (σ:St) (H:Hp) (E:Value→Shared→Prop),Inv X pins σ H s→(∀b∈fp,WS X pins H b)→tn i s.heap→J.go i H →
  wpAny (model P w) X.A (pyNext (.ref it)) (fun r s1=>∃u,r=some u ∧
   wpAny (model P w) X.A (letOwnedTupleGo tg (.ref it) u) (fun _ s2=>∃x H',Inv X pins σ H' s2∧RelV x u∧J.yld i H x H'∧tn (i+1) s2.heap∧∀b∈fp,H' b=none) E s1) E s
 done:∀(X:Cx),X.prog=P→X.w=w→X.K=K→X.calm=true→∀(i:Nat) (pins:List (Addr×Obj)) (s:Shared) (σ:St) (H:Hp) (E:Value→Shared→Prop),Inv X pins σ H s→(∀b∈fp,WS X pins H b)→tn i s.heap→J.stop i H →
  wpAny (model P w) X.A (pyNext (.ref it)) (fun r s1=>r=none∧Inv X pins σ H s1) E s
 self:∀(A:Around) (i:Nat) (s:Shared) (Q:Value→Shared→Prop) (E:Value→Shared→Prop),tn i s.heap→Q (.ref it) s→wpAny (model P w) A (pyIter (.ref it)) Q E s
noncomputable abbrev TI:=St→Hp→(It→Hp→Prop)→Prop
noncomputable def PIE(X:Cx)(pins:List (Addr×Obj))(σ:St)(tg:Expr)(R:It→Hp→Prop)(itv:Value)(s2:Shared):Prop:=
 ∃(it:Addr) (fp:List Addr) (tn:Nat→Heap→Prop) (J:It) (H':Hp),itv=.ref it∧Inv X pins σ H' s2∧Ux X.prog X.w X.K tg J fp it tn∧tn 0 s2.heap∧(∀b∈fp,WS X pins H' b)∧R J H'
noncomputable def PI(X:Cx)(tg iter:Expr)(wi:TI):Prop:=
 ∀(pins:List (Addr×Obj)) (s:Shared) (σ:St) (H:Hp) (R:It→Hp→Prop),Inv X pins σ H s→wi σ H R →
  wpAny (model X.prog X.w) X.A (eval iter X.env) (fun v s1=>wpAny (model X.prog X.w) X.A (pyIter v) (PIE X pins σ tg R) X.xe s1) X.xe s
theorem Jq{M:Model}{A:Around}{E:Value→Shared→Prop}{s:Shared}{tg:Expr}{it:Addr}{u:Value}{o:Obj}{n:String}{vs:Array Value}{Q:Unit→Shared→Prop}(ho:s.heap.get? it=some o)(hc:o.cls=.type n)(hd:o.data=.fields vs)
  (hn:["enumerate", "zip", "dict_itemiterator", "dict_reverseitemiterator", "odict_iterator", "itertools.zip_longest", "itertools.pairwise"].contains n=false) (hQ:Q () s):wpAny M A (letOwnedTupleGo tg (.ref it) u) Q E s:=by
 unfold letOwnedTupleGo
 cases tg <;> first
  | exact wpAny_pure hQ
  | (cases u <;> first
    | exact wpAny_pure hQ
    | (refine wpAny_bind (wpAny_load ho ?_)
       rw[hc,hd]
       show wpAny M A (if (["enumerate", "zip", "dict_itemiterator", "dict_reverseitemiterator", "odict_iterator", "itertools.zip_longest", "itertools.pairwise"].contains n&&vs[0]?==some (rawInt _))=true then _ else _) Q E s
       rw[if_neg (by intro h;rw[hn,Bool.false_and] at h;nomatch h)]
       exact wpAny_pure hQ))
noncomputable def Itl(K:Frag)(a:Addr):It:=
 ⟨fun i H=>∃xs x,SqL K H a xs∧xs[i]?=some x,fun i H x H'=>H'=H∧∀xs,SqL K H a xs→xs[i]?=some x,fun i H=>∃xs,SqL K H a xs∧xs.length≤i⟩
noncomputable def Itt(K:Frag)(a:Addr):It:=
 ⟨fun i H=>∃xs x,SqT K H a xs∧xs[i]?=some x,fun i H x H'=>H'=H∧∀xs,SqT K H a xs→xs[i]?=some x,fun i H=>∃xs,SqT K H a xs∧xs.length≤i⟩
noncomputable def Itr(lo:Int)(n:Nat):It:=⟨fun i _=>i<n,fun i H x H'=>H'=H∧x=.int (lo+i),fun i _=>n≤i⟩
theorem WW{P:Program}{w:World}{K:Frag}{tg:Expr}(a it:Addr):Ux P w K tg (Itl K a) [it] it (fun i h=>h.IsListIter it a i) where
 mem:=by simp
 obj:=fun i h st b hb=>by
  have e:b=it:=by simpa using hb
  subst e
  refine X12 st fun o e c d=>?_
  exact Y11 o e (fun v z=>by rw[d] at z;nomatch z)
 keep:=fun i h h' st k=>st.at fun o e=>k it (by simp) o e
 item:=by
  intro X hP hw hK hc i pins s σ H E I hf st hg
  subst hP hw hK
  refine X21 hg fun xs x hq hx=>?_
  refine X12 (I.list hq) fun its rv p hz=>?_
  refine X11 (rv.get hx) fun u hu ru=>?_
  obtain⟨f0,f1,f2,f3,f4,f5⟩:=hf it (by simp)
  refine wpAny_pyNext_list_item st p.isList (x:=u) (by simpa using hu) fun h' st' sb=>?_
  have I1:Inv X pins σ H { s with heap:=h' }:=I.turned (t':=s.toks) (fun b o hb e=>(sb.2 b hb).trans e) f0 f1 f3 f4 f5
  refine X12 (id st') fun o e c d=>?_
  exact Y11 u rfl (Jq (s:={ s with heap:=h' }) e c d (by decide) ⟨x,H,I1,ru,⟨rfl,fun ys hy=>by rw[I.list_inj hy hq];exact hx⟩,st',fun b hb=>(hf b hb).1⟩)
 done:=by
  intro X hP hw hK hc i pins s σ H E I hf st hg
  subst hP hw hK
  refine X11 hg fun xs hq hx=>?_
  refine X12 (I.list hq) fun its rv p hz=>?_
  obtain⟨f0,f1,f2,f3,f4,f5⟩:=hf it (by simp)
  have hl:=rv.length
  exact wpAny_pyNext_list_end (I.ok.hd hc) st p.isList (by simp;lia) fun h' eb=>⟨rfl,I.turned (t':=s.toks) (fun b o hb e=>eb b o hb e) f0 f1 f3 f4 f5⟩
 self:=fun _ _ _ _ _ st h=>wpAny_pyIter_listiter st h
theorem JK{P:Program}{w:World}{K:Frag}{tg:Expr}(a it:Addr):Ux P w K tg (Itt K a) [it] it (fun i h=>h.IsTupleIter it a i) where
 mem:=by simp
 obj:=fun i h st b hb=>by
  have e:b=it:=by simpa using hb
  subst e
  refine X12 st fun o e c d=>?_
  exact Y11 o e (fun v z=>by rw[d] at z;nomatch z)
 keep:=fun i h h' st k=>st.at fun o e=>k it (by simp) o e
 item:=by
  intro X hP hw hK hc i pins s σ H E I hf st hg
  subst hP hw hK
  refine X21 hg fun xs x hq hx=>?_
  refine X12 (I.tuple hq) fun its rv p hz=>?_
  refine X11 (rv.get hx) fun u hu ru=>?_
  obtain⟨f0,f1,f2,f3,f4,f5⟩:=hf it (by simp)
  refine wpAny_pyNext_tuple_item st (show s.heap.IsTuple a its.toArray from p) (x:=u) (by simpa using hu) fun h' st' sb=>?_
  have I1:Inv X pins σ H { s with heap:=h' }:=I.turned (t':=s.toks) (fun b o hb e=>(sb.2 b hb).trans e) f0 f1 f3 f4 f5
  refine X12 (id st') fun o e c d=>?_
  exact Y11 u rfl (Jq (s:={ s with heap:=h' }) e c d (by decide) ⟨x,H,I1,ru,⟨rfl,fun ys hy=>by rw[I.tuple_inj hy hq];exact hx⟩,st',fun b hb=>(hf b hb).1⟩)
 done:=by
  intro X hP hw hK hc i pins s σ H E I hf st hg
  subst hP hw hK
  refine X11 hg fun xs hq hx=>?_
  refine X12 (I.tuple hq) fun its rv p hz=>?_
  obtain⟨f0,f1,f2,f3,f4,f5⟩:=hf it (by simp)
  have hl:=rv.length
  exact wpAny_pyNext_tuple_end (I.ok.hd hc) st (show s.heap.IsTuple a its.toArray from p) (by simp;lia) fun h' eb=>⟨rfl,I.turned (t':=s.toks) (fun b o hb e=>eb b o hb e) f0 f1 f3 f4 f5⟩
 self:=fun _ _ _ _ _ st h=>wpAny_pyIter_tupleiter st h
theorem JL{P:Program}{w:World}{K:Frag}{tg:Expr}(it:Addr)(lo:Int)(n:Nat):Ux P w K tg (Itr lo n) [it] it (fun i h=>IsRangeIter h it (lo+(i:Nat)*1) ((n:Int)-(i:Nat)) 1) where
 mem:=by simp
 obj:=fun i h st b hb=>by
  have e:b=it:=by simpa using hb
  subst e
  exact Y11 _ st (fun v z=>by
   have z':Data.fields _=Data.cell v:=z
   nomatch z')
 keep:=fun i h h' st k=>k it (by simp) _ st
 item:=by
  intro X hP hw hK hc i pins s σ H E I hf st hg
  subst hP hw hK
  obtain⟨f0,f1,f2,f3,f4,f5⟩:=hf it (by simp)
  have W:=Walks.range (prog:=X.prog) (w:=X.w) (I.ok.hd hc) it lo 1 n
  refine W.item i s _ _ hg st fun v h' tk hv st' kk=>?_
  obtain⟨t,rfl⟩:=hv
  have I1:Inv X pins σ H { s with heap:=h',toks:=tk }:=I.turned (fun b o hb e=>kk b o (by simpa using hb) e) f0 f1 f3 f4 f5
  refine Y11 _ rfl (Jq (s:={ s with heap:=h',toks:=tk }) (n := "range_iterator") st' rfl rfl (by decide) ⟨.int (lo+i),H,I1,⟨t,?_⟩,⟨rfl,rfl⟩,st',fun b hb=>(hf b hb).1⟩)
  rw[Int.mul_one]
 done:=by
  intro X hP hw hK hc i pins s σ H E I hf st hg
  subst hP hw hK
  obtain⟨f0,f1,f2,f3,f4,f5⟩:=hf it (by simp)
  exact wpAny_pyNext_range_end (I.ok.hd hc) st (by have:n≤i:=hg;lia) fun h' eb=>⟨rfl,I.turned (t':=s.toks) (fun b o hb e=>eb b o hb e) f0 f1 f3 f4 f5⟩
 self:=fun _ _ _ _ _ st h=>wpAny_pyIter_rangeiter st h
section
variable{X:Cx}{tg:Expr}
noncomputable def iList(K:Frag)(tl:TE):TI:=fun σ H R=>tl σ H fun x H1=>∃a,x=.ref a∧(∃xs,SqL K H1 a xs)∧R (Itl K a) H1
theorem Q3{l:Expr}{tl:TE}(hl:PE X l tl):PI X tg l (iList X.K tl):=by
 intro pins s σ H R I h
 refine thn (hl pins s σ H _ I h) fun v s1 z_=>?_
 refine X22 z_ fun x H1 I1 r1 q1=>?_
 obtain⟨a,e,⟨xs,hq⟩,q⟩:=q1
 subst e
 cases r1
 refine X12 (I1.list hq) fun its rv p hz=>?_
 refine wpAny_pyIter_list p.isList ?_
 refine⟨s1.heap.objs.size,[s1.heap.objs.size],_,_,H1,rfl,I1.kept (t':=s1.toks) fun b o e=>get?_push_of_some _ e,WW a _,⟨_,Heap.get?_push_size _ rfl,rfl,rfl⟩,fun b hb=>?_,q⟩
 have e:b=s1.heap.objs.size:=by simpa using hb
 subst e
 exact I1.fpOk (Nat.le_refl _) (I1.hok.fresh (Nat.le_refl _))
theorem UQ{pins:List (Addr×Obj)}{σ:St}{H:Hp}{s:Shared}{R:It→Hp→Prop}{E:Value→Shared→Prop}{lo hi:Int}{t u v:Tok}{tk:Nat}(I:Inv X pins σ H s)(h1 : -(2 ^ 62)≤lo)(h2:lo<2 ^ 62)(h3 : -(2 ^ 62)≤hi)(h4:hi<2 ^ 62)
  (q:R (Itr lo (hi-lo).toNat) H):wpAny (model X.prog X.w) X.A (pyIter (.ref s.heap.objs.size)) (PIE X pins σ tg R) E { s with heap:=s.heap.push { cls:=.type "range", data:=.fields #[.int lo t,.int hi u,.int 1 v] },toks:=tk }:=by
 refine wpAny_pyIter_range (IsRange.new ..) (small_one h1 h2 h3 h4) ?_
 have I1:Inv X pins σ H { s with heap:=s.heap.push { cls:=.type "range", data:=.fields #[.int lo t,.int hi u,.int 1 v] },toks:=tk }:=I.kept fun b o e=>get?_push_of_some _ e
 refine⟨(s.heap.push { cls:=.type "range", data:=.fields #[.int lo t,.int hi u,.int 1 v] }).objs.size,[(s.heap.push { cls:=.type "range", data:=.fields #[.int lo t,.int hi u,.int 1 v] }).objs.size],_,_,H,rfl,
  I1.kept (t':=tk) fun b o e=>get?_push_of_some _ e,JL _ lo (hi-lo).toNat,?_,fun b hb=>?_,q⟩
 ·have e1:lo+((0:Nat):Int)*1=lo:=by simp
  have e2:(((hi-lo).toNat:Nat):Int)-((0:Nat):Int)=Builtin.Range.rangeSize lo hi 1:=by rw[rangeSize_one];split <;> lia
  show IsRangeIter _ _ (lo+((0:Nat):Int)*1) ((((hi-lo).toNat:Nat):Int)-((0:Nat):Int)) 1
  rw[e1,e2]
  exact Heap.get?_push_size _ rfl
 ·have e:b=(s.heap.push { cls:=.type "range", data:=.fields #[.int lo t,.int hi u,.int 1 v] }).objs.size:=by simpa using hb
  subst e
  exact I1.fpOk (Nat.le_refl _) (I1.hok.fresh (Nat.le_refl _))
noncomputable def iRng1(ta:TA):TI:=fun σ H R=>ta σ H fun vs H1=>∃j:Int,vs=[.int j]∧-(2 ^ 62)≤j∧j<2 ^ 62∧R (Itr 0 j.toNat) H1
noncomputable def iRng2(ta:TA):TI:=fun σ H R=>ta σ H fun vs H1=>∃i j:Int,vs=[.int i,.int j]∧(-(2 ^ 62)≤i∧i<2 ^ 62∧-(2 ^ 62)≤j∧j<2 ^ 62)∧R (Itr i (j-i).toNat) H1
theorem Mf{a:Expr}{ta:TA}{p pos:Pos}(hg:Gl X "range")(hm:X.mg "range" = none)(ha:PA X [a] ta)(hs:starEach [a] X.env=[(false,eval a X.env)]:=by rfl):PI X tg (.Call (.Name "range" p) [a] [] pos) (iRng1 ta):=by
 intro pins s σ H R I h
 refine Call_ (ja I hg hm boot_range (PyProof.Rows.callWith_type1 (thn (ha pos pins s σ H _ I h) fun us s1 z_=>?_) hs rfl))
 refine X22 z_ fun vs H1 I1 r1 q1=>?_
 obtain⟨j,e,q1,q2,q⟩:=q1
 subst e
 cases r1 with
 |cons r rr=>
  cases rr
  obtain⟨t,rfl⟩:=r
  exact call_range_1 (UQ I1 (by lia) (by lia) q1 q2 (by simpa using q))
theorem Me{a b:Expr}{ta:TA}{p pos:Pos}(hg:Gl X "range")(hm:X.mg "range" = none)(ha:PA X [a,b] ta)(hs:starEach [a,b] X.env=[(false,eval a X.env),(false,eval b X.env)]:=by rfl)(hs2:starEach [b] X.env=[(false,eval b X.env)]:=by rfl) :
  PI X tg (.Call (.Name "range" p) [a,b] [] pos) (iRng2 ta):=by
 intro pins s σ H R I h
 refine Call_ (ja I hg hm boot_range (PyProof.Rows.callWith_type1 (thn (ha pos pins s σ H _ I h) fun us s1 z_=>?_) (by rw[hs,hs2]) (by rw[hs2];rfl)))
 refine X22 z_ fun vs H1 I1 r1 q1=>?_
 obtain⟨i,j,e,⟨q1,q2,q3,q4⟩,q⟩:=q1
 subst e
 cases r1 with
 |cons r rr=>
  cases rr with
  |cons r' rr=>
   cases rr
   obtain⟨t,rfl⟩:=r
   obtain⟨t',rfl⟩:=r'
   exact call_range_2 (UQ I1 q1 q2 q3 q4 q)
noncomputable def tFor(wi:TI)(g:TG)(tb:TS):TS:=fun D σ H=>wi σ H fun J H1=>∃W:Nat→Nat→St→Hp→Prop,(∃m,W 0 m σ H1)∧∀i m σ H,W i m σ H →
 (J.stop i H∧D.nx σ H)∨(J.go i H∧∃N:St→Hp→Prop,(∀σ' H',N σ' H'→∃m',m'<m∧W (i+1) m' σ' H')∧∀x H',J.yld i H x H'→g x σ H' fun σ2 H2=>tb { D with nx:=N,ct:=N,bk:=D.nx } σ2 H2)
noncomputable def XG(fp:List Addr)(h:Heap):List (Addr×Obj):=fp.filterMap fun b=>(h.get? b).map fun o=>(b,o)
theorem u9{fp:List Addr}{h:Heap}{b:Addr}{o:Obj}(hb:b∈fp)(e:h.get? b=some o):(b,o)∈XG fp h:=List.mem_filterMap.mpr ⟨b,hb,by rw[e];rfl⟩
theorem Mu{fp:List Addr}{h:Heap}{p:Addr×Obj}(hp:p∈XG fp h):p.1∈fp∧h.get? p.1=some p.2:=by
 refine X11 (List.mem_filterMap.mp hp) fun b hb e=>?_
 cases q:h.get? b with
 |none=>rw[q] at e;cases e
 |some o=>
  rw[q] at e
  have e':(b,o)=p:=Option.some.inj e
  subst e'
  exact⟨hb,q⟩
theorem Inv.pinned{pins:List (Addr×Obj)}{σ:St}{H:Hp}{s:Shared}{fp:List Addr}(I:Inv X pins σ H s)(hf:∀b∈fp,WS X pins H b)(ho:∀b∈fp,∃o,s.heap.get? b=some o∧∀v,o.data≠.cell v):Inv X (pins++XG fp s.heap) σ H s:=
 I.pins_of fun p hp=>(List.mem_append.mp hp).elim (fun z=>I.pin p (List.mem_append_right _ z)) fun z=>by
  obtain⟨hb,e⟩:=Mu z
  refine X03 (hf p.1 hb) fun f0 f1 f2 _=>?_
  refine X11 (ho p.1 hb) fun o e' d=>?_
  rw[e] at e';replace e':=sI_ e';subst e'
  exact⟨e,f0,f1,f2,d⟩
theorem Inv.unpinned{pins pl:List (Addr×Obj)}{σ:St}{H:Hp}{s:Shared}(I:Inv X (pins++pl) σ H s):Inv X pins σ H s:=I.pins_of fun p hp=>I.pin p (List.mem_append_right _ (List.mem_append_left _ hp))
theorem zo3{iter:Expr}{body:List Stmt}{wi:TI}{g:TG}{tb:TS}{pos:Pos}(hp:PassesOwn (model X.prog X.w) X.A X.env X.xe)(hc:X.calm=true)(hi:PI X tg iter wi)(hg:PG X tg g)(hb:PSs X body tb)
  (hs:∀x,foldedSetIterable iter X.env x=pure x:=by intro _;rfl):PS X (.For tg iter body [] pos) (tFor wi g tb):=by
 intro pins s σ H D I h
 refine wpAny_For (thn (hi pins s σ H _ I h) fun v s1 h1=>thn h1 fun itv s2 h2=>?_) hs
 obtain⟨it,fp,tn,J,H2,e,I2,T,st2,f2,W,⟨m0,w0⟩,turn⟩:=h2
 subst e
 have stat:∀{H':Hp},(∀b∈fp,H' b=none)→∀b∈fp,WS X pins H' b:=fun hn b hb=>⟨hn b hb,(f2 b hb).2⟩
 refine codeAny_forLoop_any (fun n s'=>∃i σ' H',Inv X pins σ' H' s'∧tn i s'.heap∧(∀b∈fp,H' b=none)∧W i n σ' H') ?_ m0 ⟨0,σ,H2,I2,st2,fun b hb=>(f2 b hb).1,w0⟩
 rintro n s3 ⟨i,σ3,H3,I3,st3,fr3,w3⟩
 rcases turn i n σ3 H3 w3 with ⟨stop,qn⟩|⟨go,N,hN,step⟩
 ·refine wpAny_passesOwn hp (thn (T.done X rfl rfl rfl hc i pins s3 σ3 H3 X.xe I3 (stat fr3) st3 stop) fun r s4 z_=>?_)
  obtain⟨hr,I4⟩:=z_
  subst hr
  exact wpAny_execs_nil ⟨σ3,H3,I4,qn⟩
 ·refine wpAny_passesOwn hp (thn (T.item X rfl rfl rfl hc i pins s3 σ3 H3 X.xe I3 (stat fr3) st3 go) fun r s4 z_=>?_)
  refine X11 z_ fun u hr h4=>?_
  subst hr
  refine wpAny_passesOwn hp (thn h4 fun _ s5 z_=>?_)
  obtain⟨x,H5,I5,r5,y5,st5,fr5⟩:=z_
  have I5':=I5.pinned (stat fr5) (T.obj _ _ st5)
  refine wpAny_passesOwn hp (thn (hg _ s5 σ3 H5 x u _ I5' r5 (step x H5 y5)) fun _ s6 z_=>?_)
  refine X21 z_ fun σ6 H6 I6 q6=>?_
  refine wpAny_passesOwn hp (thn (hb _ s6 σ6 H6 _ I6 q6) fun f s7 q7=>?_)
  have again:∀{σ7:St} {H7:Hp},Inv X (pins++XG fp s5.heap) σ7 H7 s7→N σ7 H7→∃m,m<n∧∃i σ' H',Inv X pins σ' H' s7∧tn i s7.heap∧(∀b∈fp,H' b=none)∧W i m σ' H':=fun {σ7 H7} I7 n7=>by
   refine X11 (hN σ7 H7 n7) fun m' hm w7=>?_
   refine⟨m',hm,i+1,σ7,H7,I7.unpinned,T.keep _ _ _ st5 fun b hb o e=>(I7.pin (b,o) (List.mem_append_right _ (List.mem_append_right _ (u9 hb e)))).1,fun b hb=>?_,w7⟩
   refine X11 (T.obj _ _ st5 b hb) fun o e d=>?_
   exact(I7.pin (b,o) (List.mem_append_right _ (List.mem_append_right _ (u9 hb e)))).2.1
  cases f with
  |next=>refine X21 q7 fun σ7 H7 I7 n7=>?_;exact again I7 n7
  |cont=>refine X21 q7 fun σ7 H7 I7 n7=>?_;exact again I7 n7
  |brk=>obtain⟨σ7,H7,I7,q7⟩:=q7;exact Y21 σ7 H7 I7.unpinned q7
  |ret v=>obtain⟨x7,σ7,H7,I7,r7,q7⟩:=q7;exact⟨x7,σ7,H7,I7.unpinned,r7,q7⟩
end
noncomputable abbrev R2:=V→V→Hp→VK→Prop
noncomputable def OpR(X:Cx)(f:Value→Value→Sem Value)(r:R2):Prop:=
 ∀(pins:List (Addr×Obj)) (s:Shared) (σ:St) (H:Hp) (x y:V) (v u:Value) (Q:VK),Inv X pins σ H s→RelV x v→RelV y u→r x y H Q →
  wpAny (model X.prog X.w) X.A (f v u) (EP X pins σ Q) X.xe s
noncomputable def UnR(X:Cx)(f:Value→Sem Value)(r:V→Hp→VK→Prop):Prop:=
 ∀(pins:List (Addr×Obj)) (s:Shared) (σ:St) (H:Hp) (x:V) (v:Value) (Q:VK),Inv X pins σ H s→RelV x v→r x H Q →
  wpAny (model X.prog X.w) X.A (f v) (EP X pins σ Q) X.xe s
noncomputable def CallR(X:Cx)(f:Value)(r:List V→Hp→VK→Prop):Prop:=
 ∀(pins:List (Addr×Obj)) (s:Shared) (σ:St) (H:Hp) (xs:List V) (us:List Value) (Q:VK),Inv X pins σ H s→Vals xs us→r xs H Q →
  wpAny (model X.prog X.w) X.A (call f us) (EP X pins σ Q) X.xe s
noncomputable def TruR(X:Cx)(r:V→Hp→(Bool→Hp→Prop)→Prop):Prop:=
 ∀(pins:List (Addr×Obj)) (s:Shared) (σ:St) (H:Hp) (x:V) (v:Value) (Q:Bool→Hp→Prop),Inv X pins σ H s→RelV x v→r x H Q →
  wpAny (model X.prog X.w) X.A (truthy v) (TP X pins σ Q) X.xe s
noncomputable def tOp(r:R2)(ta tb:TE):TE:=fun σ H Q=>ta σ H fun x H1=>tb σ H1 fun y H2=>r x y H2 Q
noncomputable def tUn(r:V→Hp→VK→Prop)(ta:TE):TE:=fun σ H Q=>ta σ H fun x H1=>r x H1 Q
noncomputable def rI(C:Int→Int→Prop)(g:Int→Int→V):R2:=fun x y H Q=>∃i j,x=.int i∧y=.int j∧C i j∧Q (g i j) H
noncomputable def rI0(g:Int→Int→V):R2:=fun x y H Q=>∃i j,x=.int i∧y=.int j∧Q (g i j) H
noncomputable def rU(g:Int→V):V→Hp→VK→Prop:=fun x H Q=>∃i,x=.int i∧Q (g i) H
section
variable{X:Cx}{a b c:Expr}{ta tb tc:TE}{pos:Pos}
theorem zu8(ha:PE X a ta)(hb:PE X b tb){pins:List (Addr×Obj)}{s:Shared}{σ:St}{H:Hp}{R:V→V→Hp→Prop}(I:Inv X pins σ H s)
  (h:ta σ H fun x H1=>tb σ H1 fun y H2=>R x y H2) {Q:Value→Shared→Prop} {f:Value→Value→Sem Value}
  (hf:∀v u s2 x y H2,Inv X pins σ H2 s2→RelV x v→RelV y u→R x y H2→wpAny (model X.prog X.w) X.A (f v u) Q X.xe s2) :
  wpAny (model X.prog X.w) X.A (eval a X.env) (fun v s₁=>wpAny (model X.prog X.w) X.A (eval b X.env) (fun u s₂=>wpAny (model X.prog X.w) X.A (f v u) Q X.xe s₂) X.xe s₁) X.xe s:=by
 refine thn (ha pins s σ H _ I h) fun v s1 z_=>?_
 refine X22 z_ fun x H1 I1 r1 q1=>?_
 refine thn (hb pins s1 σ H1 _ I1 q1) fun u s2 z_=>?_
 refine X22 z_ fun y H2 I2 r2 q2=>?_
 exact hf v u s2 x y H2 I2 r1 r2 q2
theorem pe_op{op:Operator}{r:R2}(ho:OpR X (binaryOp op) r)(ha:PE X a ta)(hb:PE X b tb):PE X (.BinOp a op b pos) (tOp r ta tb):=by
 intro pins s σ H Q I h
 exact wpAny_BinOp (zu8 ha hb I h fun v u s2 x y H2 I2 rx ry q=>ho pins s2 σ H2 x y v u Q I2 rx ry q)
theorem pe_un{op:UnaryOp}{r:V→Hp→VK→Prop}(ho:UnR X (unaryOp op) r)(ha:PE X a ta):PE X (.UnaryOp op a pos) (tUn r ta):=by
 intro pins s σ H Q I h
 exact UnaryOp_ (thn (ha pins s σ H _ I h) fun v s1 ⟨x,H1,I1,r1,q1⟩=>ho pins s1 σ H1 x v Q I1 r1 q1)
theorem opI{f:Value→Value→Sem Value}{C:Int→Int→Prop}{g:Int→Int→Int}
  (rule:∀(i j:Int) (t u:Tok) (s:Shared) (Q:Value→Shared→Prop) (E:Value→Shared→Prop),C i j→Q (.int (g i j) s.toks) { s with toks:=s.toks+1 }→wpAny (model X.prog X.w) X.A (f (.int i t) (.int j u)) Q E s) :
  OpR X f (rI C fun i j=>.int (g i j)):=by
 intro pins s σ H x y v u Q I rx ry h
 obtain⟨i,j,rfl,rfl,hc,q⟩:=h
 obtain⟨t,rfl⟩:=rx
 obtain⟨t',rfl⟩:=ry
 exact rule i j t t' s _ _ hc ⟨.int (g i j),H,I.tok _,⟨_,rfl⟩,q⟩
theorem opI0{f:Value→Value→Sem Value}{g:Int→Int→Int}
  (rule:∀(i j:Int) (t u:Tok) (s:Shared) (Q:Value→Shared→Prop) (E:Value→Shared→Prop),Q (.int (g i j) s.toks) { s with toks:=s.toks+1 }→wpAny (model X.prog X.w) X.A (f (.int i t) (.int j u)) Q E s) :
  OpR X f (rI0 fun i j=>.int (g i j)):=by
 intro pins s σ H x y v u Q I rx ry h
 obtain⟨i,j,rfl,rfl,q⟩:=h
 obtain⟨t,rfl⟩:=rx
 obtain⟨t',rfl⟩:=ry
 exact rule i j t t' s _ _ ⟨.int (g i j),H,I.tok _,⟨_,rfl⟩,q⟩
theorem zq7{f:Value→Value→Sem Value}{g:Int→Int→Bool}
  (rule:∀(i j:Int) (t u:Tok) (s:Shared) (Q:Value→Shared→Prop) (E:Value→Shared→Prop),Q (.bool (g i j)) s→wpAny (model X.prog X.w) X.A (f (.int i t) (.int j u)) Q E s) :
  OpR X f (rI0 fun i j=>.bl (g i j)):=by
 intro pins s σ H x y v u Q I rx ry h
 obtain⟨i,j,rfl,rfl,q⟩:=h
 obtain⟨t,rfl⟩:=rx
 obtain⟨t',rfl⟩:=ry
 exact rule i j t t' s _ _ ⟨.bl (g i j),H,I,rfl,q⟩
noncomputable def CDiv(i j:Int):Prop:=0<j∧j<1073741824
noncomputable def CMul(i j:Int):Prop:=(-(2 ^ 64)<i∧i<2 ^ 64)∨(-(2 ^ 64)<j∧j<2 ^ 64)
theorem CMul.ok{i j:Int}(h:CMul i j):IntMulOk i j:=by
 rcases h with ⟨h1,h2⟩|⟨h1,h2⟩
 ·exact .of_left (intBits_le_64 h1 h2)
 ·exact .of_right (intBits_le_64 h1 h2)
theorem op_add:OpR X (binaryOp .Add) (rI0 fun i j=>.int (i+j)):=opI0 fun _ _ _ _ _ _ _ q=>add_int q
theorem zq1:OpR X (binaryOp .Sub) (rI0 fun i j=>.int (i-j)):=opI0 fun _ _ _ _ _ _ _ q=>sub_int q
theorem op_mul:OpR X (binaryOp .Mult) (rI CMul fun i j=>.int (i*j)):=opI fun _ _ _ _ _ _ _ hc q=>mul_int q hc.ok
theorem zf5:OpR X (binaryOp .FloorDiv) (rI CDiv fun i j=>.int (i / j)):=opI fun i j _ _ _ _ _ hc q=>by
 have h1:(0:Int)<j:=hc.1
 have h2:j<1073741824:=hc.2
 exact floordiv_int (by lia) (by rw[Int.fdiv_eq_ediv_of_nonneg i (by lia)];exact q) (.inl (PyProof.noPylong_small (by lia)))
theorem zq3:OpR X (binaryOp .Mod) (rI (fun _ j=>0<j) fun i j=>.int (i%j)):=opI fun i j _ _ _ _ _ hc q=>by
 have h1:(0:Int)<j:=hc
 exact mod_int' (by lia) (by rw[Int.fmod_eq_emod_of_nonneg i (by lia)];exact q)
theorem unI{f:Value→Sem Value}{g:Int→Int}
  (rule:∀(i:Int) (t:Tok) (s:Shared) (Q:Value→Shared→Prop) (E:Value→Shared→Prop),Q (.int (g i) s.toks) { s with toks:=s.toks+1 }→wpAny (model X.prog X.w) X.A (f (.int i t)) Q E s) :
  UnR X f (rU fun i=>.int (g i)):=by
 intro pins s σ H x v Q I rx h
 obtain⟨i,rfl,q⟩:=h
 obtain⟨t,rfl⟩:=rx
 exact rule i t s _ _ ⟨.int (g i),H,I.tok _,⟨_,rfl⟩,q⟩
theorem zn2:UnR X (unaryOp .USub) (rU fun i=>.int (-i)):=unI fun _ _ _ _ _ q=>neg_int q
end
noncomputable def scal:V→V→Bool
 |.non,.non=>true | .non,.int _=>true | .int _,.non=>true | .non,.bl _=>true | .bl _,.non=>true | .non,.str _=>true | .str _,.non=>true
 |.int _,.int _=>true | .bl _,.bl _=>true | .str _,.str _=>true | .byt _,.byt _=>true
 |.int _,.str _=>true | .str _,.int _=>true | .bl _,.str _=>true | .str _,.bl _=>true
 |_,_=>false
noncomputable def rEq:R2:=fun x y H Q=>scal x y=true∧Q (.bl (decide (x=y))) H
noncomputable def rNe:R2:=fun x y H Q=>scal x y=true∧Q (.bl (!decide (x=y))) H
theorem Xu{i j:Int}:decide (V.int i=V.int j)=(i==j):=by
 rw[Bool.eq_iff_iff]
 simp
theorem L7{i j:Bool}:decide (V.bl i=V.bl j)=(i==j):=by
 rw[Bool.eq_iff_iff]
 simp
theorem Xt{i j:Str}:decide (V.str i=V.str j)=(i==j):=by
 rw[Bool.eq_iff_iff]
 simp
theorem GO{i j:Array UInt8}:decide (V.byt i=V.byt j)=(i.toList==j.toList):=by
 rw[Bool.eq_iff_iff]
 cases i
 cases j
 simp
section
variable{X:Cx}{a b c:Expr}{ta tb tc:TE}{pos:Pos}
theorem yo{pins:List (Addr×Obj)}{σ:St}{H:Hp}{s:Shared}{Q:VK}{k k':Bool}(I:Inv X pins σ H s)(q:Q (.bl k) H)(e:k=k'):EP X pins σ Q (.bool k') s:=by
 subst e
 exact Y22 (.bl k) H I rfl q
theorem op_eq:OpR X (compareOp .Eq) rEq:=by
 intro pins s σ H x y v u Q I rx ry h
 obtain⟨hs,q⟩:=h
 cases x with
 |non=>
  cases rx
  cases y with
  |non=>cases ry;exact PySem.EqNone.eq_none_none (yo I q (by simp))
  |bl j=>cases ry;exact PySem.EqNone.eq_none_bool (yo I q (by simp))
  |int j=>obtain⟨t',rfl⟩:=ry;exact PySem.EqNone.eq_none_int (yo I q (by simp))
  |str j=>obtain⟨t',rfl⟩:=ry;exact PySem.EqNone.eq_none_str (yo I q (by simp))
  |_=>exact absurd (show false=true from hs) Bool.false_ne_true
 |bl i=>
  cases rx
  cases y with
  |non=>cases ry;exact PySem.EqNone.eq_bool_none (yo I q (by simp))
  |bl j=>cases ry;exact eq_bool (yo I q L7)
  |str j=>obtain⟨t',rfl⟩:=ry;exact PySem.EqMixed.eq_bool_str (yo I q (by simp))
  |_=>exact absurd (show false=true from hs) Bool.false_ne_true
 |int i=>
  obtain⟨t,rfl⟩:=rx
  cases y with
  |non=>cases ry;exact PySem.EqNone.eq_int_none (yo I q (by simp))
  |int j=>obtain⟨t',rfl⟩:=ry;exact eq_int (yo I q Xu)
  |str j=>obtain⟨t',rfl⟩:=ry;exact PySem.EqMixed.eq_int_str (yo I q (by simp))
  |_=>exact absurd (show false=true from hs) Bool.false_ne_true
 |str i=>
  obtain⟨t,rfl⟩:=rx
  cases y with
  |non=>cases ry;exact PySem.EqNone.eq_str_none (yo I q (by simp))
  |bl j=>cases ry;exact PySem.EqMixed.eq_str_bool (yo I q (by simp))
  |int j=>obtain⟨t',rfl⟩:=ry;exact PySem.EqMixed.eq_str_int (yo I q (by simp))
  |str j=>obtain⟨t',rfl⟩:=ry;exact eq_str (yo I q Xt)
  |_=>exact absurd (show false=true from hs) Bool.false_ne_true
 |byt i=>
  obtain⟨t,rfl⟩:=rx
  cases y with
  |byt j=>obtain⟨t',rfl⟩:=ry;exact PySem.W.eq_bytes (yo I q GO)
  |_=>exact absurd (show false=true from hs) Bool.false_ne_true
 |_=>cases y <;> exact absurd (show false=true from hs) Bool.false_ne_true
theorem op_ne:OpR X (compareOp .NotEq) rNe:=by
 intro pins s σ H x y v u Q I rx ry h
 obtain⟨hs,q⟩:=h
 cases x with
 |non=>
  cases rx
  cases y with
  |non=>cases ry;exact PySem.EqNone.ne_none_none (yo I q (by simp))
  |bl j=>cases ry;exact PySem.EqNone.ne_none_bool (yo I q (by simp))
  |int j=>obtain⟨t',rfl⟩:=ry;exact PySem.EqNone.ne_none_int (yo I q (by simp))
  |str j=>obtain⟨t',rfl⟩:=ry;exact PySem.EqNone.ne_none_str (yo I q (by simp))
  |_=>exact absurd (show false=true from hs) Bool.false_ne_true
 |bl i=>
  cases rx
  cases y with
  |non=>cases ry;exact PySem.EqNone.ne_bool_none (yo I q (by simp))
  |bl j=>cases ry;exact ne_bool (yo I q (congrArg not L7))
  |str j=>obtain⟨t',rfl⟩:=ry;exact PySem.EqMixed.ne_bool_str (yo I q (by simp))
  |_=>exact absurd (show false=true from hs) Bool.false_ne_true
 |int i=>
  obtain⟨t,rfl⟩:=rx
  cases y with
  |non=>cases ry;exact PySem.EqNone.ne_int_none (yo I q (by simp))
  |int j=>obtain⟨t',rfl⟩:=ry;exact ne_int (yo I q (congrArg not Xu))
  |str j=>obtain⟨t',rfl⟩:=ry;exact PySem.EqMixed.ne_int_str (yo I q (by simp))
  |_=>exact absurd (show false=true from hs) Bool.false_ne_true
 |str i=>
  obtain⟨t,rfl⟩:=rx
  cases y with
  |non=>cases ry;exact PySem.EqNone.ne_str_none (yo I q (by simp))
  |bl j=>cases ry;exact PySem.EqMixed.ne_str_bool (yo I q (by simp))
  |int j=>obtain⟨t',rfl⟩:=ry;exact PySem.EqMixed.ne_str_int (yo I q (by simp))
  |str j=>obtain⟨t',rfl⟩:=ry;exact ne_str (yo I q (congrArg not Xt))
  |_=>exact absurd (show false=true from hs) Bool.false_ne_true
 |byt i=>
  obtain⟨t,rfl⟩:=rx
  cases y with
  |byt j=>obtain⟨t',rfl⟩:=ry;exact PySem.W.ne_bytes (yo I q (congrArg not GO))
  |_=>exact absurd (show false=true from hs) Bool.false_ne_true
 |_=>cases y <;> exact absurd (show false=true from hs) Bool.false_ne_true
theorem op_lt:OpR X (compareOp .Lt) (rI0 fun i j=>.bl (decide (i<j))):=zq7 fun _ _ _ _ _ _ _ q=>lt_int q
theorem op_gt:OpR X (compareOp .Gt) (rI0 fun i j=>.bl (decide (j<i))):=zq7 fun _ _ _ _ _ _ _ q=>gt_int q
theorem op_ge:OpR X (compareOp .GtE) (rI0 fun i j=>.bl (decide (j≤i))):=zq7 fun _ _ _ _ _ _ _ q=>ge_int q
theorem op_in_str:OpR X (compareOp .In) (fun x y H Q=>∃i j,x=.str i∧y=.str j∧Q (.bl (!(Builtin.Str.occurrences j i 0 j.length 1).isEmpty)) H):=by
 intro pins s σ H x y v u Q I rx ry h
 obtain⟨i,j,rfl,rfl,q⟩:=h
 obtain⟨t,rfl⟩:=rx
 obtain⟨t',rfl⟩:=ry
 exact in_str (yo I q rfl)
theorem zq4:OpR X (compareOp .Is) (fun x y H Q=>y=.non∧Q (.bl (decide (x=.non))) H):=by
 intro pins s σ H x y v u Q I rx ry h
 obtain⟨rfl,q⟩:=h
 cases ry
 refine is_none_gen (yo I q ?_)
 cases x <;> first
  | (cases rx;rfl)
  | (obtain⟨t,rfl⟩:=rx;rfl)
theorem zf4:OpR X (compareOp .IsNot) (fun x y H Q=>y=.non∧Q (.bl (!decide (x=.non))) H):=by
 intro pins s σ H x y v u Q I rx ry h
 obtain⟨rfl,q⟩:=h
 cases ry
 refine isnot_none_gen (yo I q ?_)
 cases x <;> first
  | (cases rx;rfl)
  | (obtain⟨t,rfl⟩:=rx;rfl)
theorem op_notin_str:OpR X (compareOp .NotIn) (fun x y H Q=>∃i j,x=.str i∧y=.str j∧Q (.bl (!(!(Builtin.Str.occurrences j i 0 j.length 1).isEmpty))) H):=by
 intro pins s σ H x y v u Q I rx ry h
 obtain⟨i,j,rfl,rfl,q⟩:=h
 obtain⟨t,rfl⟩:=rx
 obtain⟨t',rfl⟩:=ry
 exact notIn_str (yo I q rfl)
theorem OpR.or{f:Value→Value→Sem Value}{r r':R2}(h:OpR X f r)(h':OpR X f r'):OpR X f (fun x y H Q=>r x y H Q∨r' x y H Q):=by
 intro pins s σ H x y v u Q I rx ry q
 rcases q with q|q
 ·exact h pins s σ H x y v u Q I rx ry q
 ·exact h' pins s σ H x y v u Q I rx ry q
theorem yt(b:Expr){op:CmpOp}(h:op≠.In:=by decide)(h2:op≠.NotIn:=by decide):behindInMarks op b=false:=by
 have e1:(op==CmpOp.In)=false:=by cases op <;> first|rfl|exact absurd rfl h
 have e2:(op==CmpOp.NotIn)=false:=by cases op <;> first|rfl|exact absurd rfl h2
 cases b <;> simp[behindInMarks,e1,e2]
theorem ze6{op:CmpOp}{r:R2}(ho:OpR X (compareOp op) r)(ha:PE X a ta)(hb:PE X b tb)(hm:behindInMarks op b=false):PE X (.Compare a [op] [b] pos) (tOp r ta tb):=by
 intro pins s σ H Q I h
 exact wpAny_Compare1 (zu8 ha hb I h fun v u s2 x y H2 I2 rx ry q=>ho pins s2 σ H2 x y v u Q I2 rx ry q) hm
noncomputable def zl3(t:TE):TT:=fun σ H Q=>t σ H fun x H'=>∃k,x=.bl k∧Q k H'
theorem VV{op:CmpOp}{r:R2}(ho:OpR X (compareOp op) r)(ha:PE X a ta)(hb:PE X b tb)(hm:behindInMarks op b=false):PT X (.Compare a [op] [b] pos) (zl3 (tOp r ta tb)):=by
 intro pins s σ H Q I h
 refine wpAny_isTrue_Compare1 (thn (ha pins s σ H _ I h) fun v s1 ⟨x,H1,I1,r1,q1⟩=>thn (hb pins s1 σ H1 _ I1 q1) fun u s2 ⟨y,H2,I2,r2,q2⟩=>
  thn (ho pins s2 σ H2 x y v u _ I2 r1 r2 q2) fun c s3 ⟨z,H3,I3,r3,k,e,q3⟩=>?_) hm
 subst e
 cases r3
 exact wpAny_truthy_bool ⟨H3,I3,q3⟩
noncomputable def zv6(K:Frag)(x:V)(H:Hp)(k:Bool):Prop:=
 match x with
 |.non=>k=false
 |.bl b=>k=b
 |.int i=>k=(i != 0)
 |.str y=>y.length≤sizeLine∧k=((y.length:Int) != 0)
 |.byt y=>y.size≤sizeLine∧k=((y.size:Int) != 0)
 |.ref p=>(∃xs,SqL K H p xs∧k = !xs.isEmpty)∨(∃xs,SqT K H p xs∧k = !xs.isEmpty)∨∃kvs,H p=some (.dK kvs)∧k = !kvs.isEmpty
 |_=>False
theorem Ql{κ:Type}{kvs:List (κ×V)}{vs:List (κ×Value)}(r:KV kvs vs):(!vs.isEmpty) = !kvs.isEmpty:=by
 cases r <;> rfl
theorem X8{xs:List V}{its:List Value}(r:Vals xs its):(!its.toArray.isEmpty) = !xs.isEmpty:=by
 cases r <;> simp
theorem Zu:(sizeLine:Nat)<2 ^ 63:=by rw[sizeLine_eq];decide
theorem tru_ok:TruR X (fun x H Q=>∃k,zv6 X.K x H k∧Q k H):=by
 intro pins s σ H x v Q I rx h
 refine X11 h fun k e q=>?_
 have hl:=Zu
 have hs:sizeLine=16777216:=sizeLine_eq
 cases x with
 |non=>
  cases rx
  have e':k=false:=e
  subst e'
  exact truthy_none ⟨H,I,q⟩
 |bl b=>
  cases rx
  have e':k=b:=e
  subst e'
  exact wpAny_truthy_bool ⟨H,I,q⟩
 |int i=>
  obtain⟨t,rfl⟩:=rx
  have e':k=(i != 0):=e
  subst e'
  exact PySem.P.truthy_int ⟨H,I,q⟩
 |str y=>
  obtain⟨t,rfl⟩:=rx
  obtain⟨hy,e'⟩:y.length≤sizeLine∧k=((y.length:Int) != 0):=e
  subst e'
  exact PySem.P.truthy_str (by lia) ⟨H,I.tok _,q⟩
 |byt y=>
  obtain⟨t,rfl⟩:=rx
  obtain⟨hy,e'⟩:y.size≤sizeLine∧k=((y.size:Int) != 0):=e
  subst e'
  exact PySem.W.truthy_bytes (by lia) ⟨H,I.tok _,q⟩
 |ref p=>
  cases rx
  have e':(∃xs,SqL X.K H p xs∧k = !xs.isEmpty)∨(∃xs,SqT X.K H p xs∧k = !xs.isEmpty)∨∃kvs,H p=some (.dK kvs)∧k = !kvs.isEmpty:=e
  rcases e' with ⟨xs,hx,e'⟩|⟨xs,hx,e'⟩|⟨kvs,hx,e'⟩
  ·subst e'
   refine X12 (I.list hx) fun its r pl hz=>?_
   have hlen:=r.length
   exact wpAny_truthy_list pl.isList (by simp only[List.size_toArray];lia) ⟨H,I.tok _,by rw[X8 r];exact q⟩
  ·subst e'
   refine X12 (I.tuple hx) fun its r pl hz=>?_
   have hlen:=r.length
   exact truthy_tuple pl (by simp only[List.size_toArray];lia) ⟨H,I.tok _,by rw[X8 r];exact q⟩
  ·subst e'
   obtain⟨hz,hS,vs,r,m⟩:kvs.length≤sizeLine∧(p==sysModules)=false∧∃vs,KV kvs vs∧s.heap.DictOf (Ud X.prog X.w) p vs:=I.hok p _ hx
   have hlen:kvs.length=vs.length:=Paired.length r
   exact wpAny_truthy_dict hS m (by lia) ⟨H,I.tok _,by rw[Ql r];exact q⟩
 |_=>exact(show False from e).elim
theorem TC(ha:PE X a ta)(he:∀whole,isTrue a X.env whole=(do let v ← whole;standAt a.pos;holding [v] (truthy v))) :
  PT X a (fun σ H Q=>ta σ H fun x H'=>∃k,zv6 X.K x H' k∧Q k H'):=by
 intro pins s σ H Q I h
 exact isTrue_plain (thn (ha pins s σ H _ I h) fun v s1 ⟨x,H1,I1,r1,q1⟩=>tru_ok pins s1 σ H1 x v Q I1 r1 q1) (he _)
theorem op_add_str:OpR X (binaryOp .Add) (fun x y H Q=>∃i j,x=.str i∧y=.str j∧i.length+j.length≤sizeLine∧Q (.str (i++j)) H):=by
 intro pins s σ H x y v u Q I rx ry h
 obtain⟨i,j,rfl,rfl,hz,q⟩:=h
 obtain⟨t,rfl⟩:=rx
 obtain⟨t',rfl⟩:=ry
 exact add_str (fun t' tk=>⟨.str (i++j),H,I.tok _,⟨_,rfl⟩,q⟩) hz
theorem vals1{x:V}{us:List Value}(r:Vals [x] us):∃u,us=[u]∧RelV x u:=by
 cases r with
 |cons r1 r2=>cases r2;exact Y11 _ rfl r1
theorem vals2{x y:V}{us:List Value}(r:Vals [x,y] us):∃u w',us=[u,w']∧RelV x u∧RelV y w':=by
 cases r with
 |cons r1 r2=>
  cases r2 with
  |cons r3 r4=>cases r4;exact Y22 _ _ rfl r1 r3
theorem MY(hc:X.calm=true):CallR X (.builtin "max") (fun xs H Q=>∃i j,xs=[.int i,.int j]∧Q (.int (if j > i then j else i)) H):=by
 intro pins s σ H xs us Q I r h
 obtain⟨i,j,rfl,q⟩:=h
 obtain⟨u,w',rfl,⟨t,rfl⟩,⟨t',rfl⟩⟩:=vals2 r
 refine max_two_ints (I.ok.hd hc) fun h' tk k=>⟨_,H,I.kept k,?_,q⟩
 by_cases hj:j > i
 ·rw[if_pos hj,if_pos hj];exact⟨_,rfl⟩
 ·rw[if_neg hj,if_neg hj];exact⟨_,rfl⟩
theorem MX(hc:X.calm=true):CallR X (.builtin "min") (fun xs H Q=>∃i j,xs=[.int i,.int j]∧Q (.int (if j<i then j else i)) H):=by
 intro pins s σ H xs us Q I r h
 obtain⟨i,j,rfl,q⟩:=h
 obtain⟨u,w',rfl,⟨t,rfl⟩,⟨t',rfl⟩⟩:=vals2 r
 refine min_two_ints (I.ok.hd hc) fun h' tk k=>⟨_,H,I.kept k,?_,q⟩
 by_cases hj:j<i
 ·rw[if_pos hj,if_pos hj];exact⟨_,rfl⟩
 ·rw[if_neg hj,if_neg hj];exact⟨_,rfl⟩
end
structure ObjM(h:Heap)(x dx C:Addr)(mA:Str→Option Value):Prop where
 obj:h.get? x=some (instObj C dx)
 ns:h.Ns1 dx mA
 ne:dx≠x
theorem MB{h:Heap}{dx:Addr}{mA:Str→Option Value}(n:h.Ns1 dx mA):∃od,h.get? dx=some od∧∀name,lookIn name od=some (mA name):=by
 refine X34 n fun o es ep ho hd hk _ hm=>?_
 refine Y11 o ho (fun name=>?_)
 have e:=hm name
 unfold nsFind findBy at e
 rw[← Array.find?_toList] at e
 unfold lookIn
 rw[hd]
 dsimp only
 split
 ·rename_i y q
  rw[q] at e
  exact congrArg some e
 ·rename_i q
  rw[q] at e
  have a:es.toList.any (·.refKey)=false:=by
   rw[List.any_eq_false]
   intro y hy
   obtain⟨z,t,hkey⟩:=hk y (Array.mem_toList_iff.mp hy)
   simp[DictEntry.refKey,hkey]
  have a':¬ es.toList.any (·.refKey)=true:=by rw[a];exact Bool.false_ne_true
  rw[if_neg a']
  exact congrArg some e
theorem ObjM.look{h:Heap}{x dx C:Addr}{mA:Str→Option Value}(I:ObjM h x dx C mA):∃od,PySem.W.InstAt h x (instObj C dx) C (some od)∧∀name,lookIn name od=some (mA name):=
 let ⟨od,ho,hl⟩:=MB I.ns
 ⟨od,⟨I.obj,rfl,rfl,ho⟩,hl⟩
section
variable{prog:Program}{w:World}{A:Around}{E:Value→Shared→Prop}{s:Shared}{K:Frag}{x dx C f:Addr}{mA:Str→Option Value}{name:Str}{v:Value}
theorem zi9{expr:Bool}{Q:Value→Shared→Prop}(X:K.In s.heap)(I:ObjM s.heap x dx C mA)(hg:plainGet K C name=true)(hh:hasDictIn K C=true)
  (ha:findIn K (.ref C) name=some none) (hv:mA name=some v) (hv':PySem.W.handedIn v=true) (h:Q v { s with toks:=s.toks+1 }) :
  wpAny (model prog w) A (getAttr (.ref x) name expr) Q E s:=by
 refine X11 I.look fun od J hl=>?_
 exact PySem.W.get_value X J (plainGet_of hg).1 (PySem.W.findObj_own hh ha rfl (by rw[hl,hv])) hv' h
theorem LR{pl:Sem Bool}{Q:Value×List Value→Shared→Prop}(X:K.In s.heap)(I:ObjM s.heap x dx C mA)(hg:plainGet K C name=true)
  (hf:findIn K (.ref C) name=some (some (.ref f))) (ht:isFn K (.ref f)=true) (hv:mA name=none) (h:Q (.ref f,[.ref x]) s) :
  wpAny (model prog w) A (getMethod (.ref x) name pl) Q E s:=by
 refine X11 I.look fun od J hl=>?_
 exact PySem.W.method_fn X J (plainGet_of hg).1 (plainGet_of hg).2 hf (beq_iff_eq.mp ht) (by show(lookIn name od).map (·.isSome)=some false;rw[hl,hv];rfl) h
theorem zc6{ns:List Str}{Q:Unit→Shared→Prop}(X:K.In s.heap)(I:ObjM s.heap x dx C mA)
  (hs:findIn K (.ref C) "__setattr__" = some (some (.builtin "object.__setattr__"))) (hp:plainOver K C=true) (ht:takerIn K C name=some none) (hh:hasDictIn K C=true)
  (hw:PySem.Within mA ns) (hsz:ns.length≤sizeLine)
  (h:∀h',ObjM h' x dx C (fun y=>if y=name then some v else mA y)→Heap.SameBut dx s.heap h'→Q () { s with heap:=h',toks:=s.toks+2 }) :
  wpAny (model prog w) A (setAttr (.ref x) name v) Q E s:=by
 refine X11 I.look fun od J hl=>?_
 refine PySem.W.set_plain X J hs (PySem.W.osa_open (s:={ s with toks:=s.toks+1 }) (r:=none) X J hp ht fun b=>?_)
 refine X11 (PySem.W.any_some hh) fun cd hc hd'=>?_
 have hx:s.heap.get? x=some ⟨.ref C,some dx,.plain,#[]⟩:=I.obj
 refine wpAny_bind (wpAny_pure (wpAny_bind (wpAny_bind (wpAny_loadPart hx (wpAny_bind (PySem.W.Looks.here (s:={ s with toks:=s.toks+1 }) (PySem.W.looks_clsIn X hc) ?_))))))
 rw[hd']
 refine wpAny_pure (a:=some dx) (wpAny_bind (wpAny_pure (wpAny_bind ?_)))
 refine wpAny_nsSet1 (s:={ s with toks:=s.toks+1 }) I.ns fun h' hn2 hs2=>?_
 obtain⟨oD,esD,epD,hoD,hdD,hcD⟩:=hn2.count (PySem.Within.cons name v hw)
 refine wpAny_bind (wpAny_lookBehind hoD (by rw[hdD];exact pastItsLine_dict (Nat.le_trans hcD (by rw[List.length_cons];lia))) ?_)
 exact wpAny_pure (h _ ⟨(hs2.2 _ (Ne.symm I.ne)).trans I.obj,hn2,I.ne⟩ hs2)
theorem Lu{R:Result→Shared→Prop}{vs:List Value}{kw:List (Str×Value)}(X:K.In s.heap)(hm:makesIn K C=true)
  (hi:findIn K (.ref C) "__init__" = some (some (.ref f))) (hf:PySem.W.typeIn K (.ref f)=some (.type "function"))
  (h:codeAny (model prog w) (A.under (.builtin "type.__call__" ⟨.ref C::vs,kw⟩)) (.call (.ref f) ⟨.ref (s.heap.objs.size+1)::vs,kw⟩) (PySem.W.InitBack (s.heap.objs.size+1) R)
   { s with heap:=(s.heap.push emptyDict).push (instObj C s.heap.objs.size) }) :
  codeAny (model prog w) A (.call (.ref C) ⟨vs,kw⟩) R s:=by
 obtain⟨hh,g,d,t,os⟩:=s
 exact PySem.W.make_core (PySem.W.makes_of X hm) (PySem.W.looks_findIn X hi) (fun self=>PySem.W.bind_fn X self hf) (.inl rfl) h
end
noncomputable def yU(f:Str)(v:V):List (Str×V)→List (Str×V)
 |[]=>[(f,v)]
 | (g,x)::r=>if g=f then (g,v)::r else (g,x)::yU f v r
theorem jD(f g:Str)(v:V):∀fs:List (Str×V),(yU f v fs).lookup g=if g=f then some v else fs.lookup g:=by
 intro l_
 induction l_ with
 |nil=>
  show List.lookup g [(f,v)]=_
  by_cases h:g=f
  ·have hb:(g==f)=true:=beq_iff_eq.mpr h
   simp only[List.lookup,hb,if_pos h]
  ·have hb:(g==f)=false:=beq_eq_false_iff_ne.mpr h
   simp only[List.lookup,hb,if_neg h]
 |cons p_ r ih_=>
  obtain⟨k,x⟩:=p_
  have ih:=ih_
  rw[show yU f v ((k,x)::r)=(if k=f then (k,v)::r else (k,x)::yU f v r) from rfl]
  by_cases hk:k=f
  ·rw[if_pos hk]
   by_cases h:g=k
   ·have hb:(g==k)=true:=beq_iff_eq.mpr h
    simp only[List.lookup,hb,if_pos (h.trans hk)]
   ·have hb:(g==k)=false:=beq_eq_false_iff_ne.mpr h
    simp only[List.lookup,hb,if_neg (fun e:g=f=>h (e.trans hk.symm))]
  ·rw[if_neg hk]
   by_cases h:g=k
   ·have hb:(g==k)=true:=beq_iff_eq.mpr h
    simp only[List.lookup,hb,if_neg (fun e:g=f=>hk (h.symm.trans e))]
   ·have hb:(g==k)=false:=beq_eq_false_iff_ne.mpr h
    simp only[List.lookup,hb]
    exact ih
theorem YI(f:Str)(v:V):∀fs:List (Str×V),f∈(yU f v fs).map (·.1)∧∀g,g∈fs.map (·.1)→g∈(yU f v fs).map (·.1):=by
 intro l_
 induction l_ with
 |nil=>
  exact⟨by simp[yU],fun g h=>by simp at h⟩
 |cons p_ r ih_=>
  obtain⟨k,x⟩:=p_
  obtain⟨i1,i2⟩:=ih_
  rw[show yU f v ((k,x)::r)=(if k=f then (k,v)::r else (k,x)::yU f v r) from rfl]
  by_cases hk:k=f
  ·rw[if_pos hk]
   subst hk
   exact⟨by simp,fun g h=>by simpa using h⟩
  ·rw[if_neg hk]
   refine⟨?_,fun g h=>?_⟩
   ·rw[List.map_cons]
    exact List.mem_cons_of_mem _ i1
   ·rw[List.map_cons] at h ⊢
    rcases List.mem_cons.mp h with e|e
    ·exact List.mem_cons.mpr (.inl e)
    ·exact List.mem_cons_of_mem _ (i2 g e)
theorem YT(f:Str)(v:V):∀fs:List (Str×V),(yU f v fs).length≤fs.length+1:=by
 intro l_
 induction l_ with
 |nil=>
  simp[yU]
 |cons p_ r ih_=>
  obtain⟨k,x⟩:=p_
  have ih:=ih_
  rw[show yU f v ((k,x)::r)=(if k=f then (k,v)::r else (k,x)::yU f v r) from rfl]
  by_cases hk:k=f
  ·rw[if_pos hk,List.length_cons,List.length_cons];lia
  ·rw[if_neg hk,List.length_cons,List.length_cons];lia
theorem RelO.some_of{v:V}{o:Option Value}(r:RelO (some v) o):∃u,o=some u∧RelV v u:=by
 cases o with
 |none=>exact(show False from r).elim
 |some u=>exact Y11 u rfl r
theorem RelO.none_of{o:Option Value}(r:RelO none o):o=none:=by
 cases o with
 |none=>rfl
 |some u=>exact(show False from r).elim
theorem MO{v:V}{u:Value}(r:RelV v u):PySem.W.handedIn u=true:=by
 cases v with
 |non=>cases (show u=Value.none from r);rfl
 |bl b=>cases (show u=Value.bool b from r);rfl
 |int i=>obtain⟨t,e⟩:=(show ∃t,u=Value.int i t from r);replace e:=e.symm;subst e;rfl
 |str x=>obtain⟨t,e⟩:=(show ∃t,u=Value.str x t from r);replace e:=e.symm;subst e;rfl
 |byt b=>obtain⟨t,e⟩:=(show ∃t,u=Value.bytes b t from r);replace e:=e.symm;subst e;rfl
 |flt b=>obtain⟨t,e⟩:=(show ∃t,u=Value.float b t from r);replace e:=e.symm;subst e;rfl
 |ref a=>cases (show u=Value.ref a from r);rfl
 |ty n=>cases (show u=Value.type n from r);rfl
section
variable{P:Program}{w:World}{H H':Hp}{h h':Heap}{a C dx:Addr}{fs fs':List (Str×V)}
theorem Uj(hok:HOk P w H h)(e:H a=some (.ins C dx fs)):∃mA,ObjM h a dx C mA∧(∀f,RelO (fs.lookup f) (mA f))∧PySem.Within mA (fs.map (·.1))∧fs.length≤1000∧H dx=some (.own a):=by
 obtain⟨d,z,ne,ob,mA,n,r,q⟩:=(show ObjOk P w H h a (.ins C dx fs) from hok a _ e)
 exact⟨mA,⟨ob,n,ne⟩,r,q,z,d⟩
end
structure Cls(K:Frag)(C:Addr):Prop where
 pg:plainGet K C Str.empty=true
 hd:hasDictIn K C=true
 po:plainOver K C=true
 sa:findIn K (.ref C) "__setattr__" = some (some (.builtin "object.__setattr__"))
theorem Cls.get{K:Frag}{C:Addr}(c:Cls K C)(f:Str):plainGet K C f=true:=c.pg
noncomputable def NoAttr(K:Frag)(C:Addr)(f:Str):Prop:=findIn K (.ref C) f=some none
theorem NoAttr.taker{K:Frag}{C:Addr}{f:Str}(n:NoAttr K C f):takerIn K C f=some none:=by
 unfold takerIn
 rw[show findIn K (.ref C) f=some none from n]
 rfl
structure ZE(K:Frag)(C:Addr)(m:Str)(f:Addr):Prop where
 at_:findIn K (.ref C) m=some (some (.ref f))
 fn:isFn K (.ref f)=true
 kp:keepIn K (.ref f)=true
section
variable{X:Cx}{pins:List (Addr×Obj)}{σ:St}{H:Hp}{s:Shared}{a C dx:Addr}{fs:List (Str×V)}{f:Str}{v:V}{A:Around}{E:Value→Shared→Prop}
theorem Wg{b:Bool}{Q:Value→Shared→Prop}(I:Inv X pins σ H s)(e:H a=some (.ins C dx fs))(c:Cls X.K C)(n:NoAttr X.K C f)(l:fs.lookup f=some v)
  (h:∀u s',Inv X pins σ H s'→RelV v u→Q u s'):wpAny (model X.prog X.w) A (getAttr (.ref a) f b) Q E s:=by
 obtain⟨mA,O,r,_,_,_⟩:=Uj I.hok e
 refine X11 (RelO.some_of (v:=v) (o:=mA f) (by rw[← l];exact r f)) fun u hu ru=>?_
 exact zi9 I.kIn O (c.get f) c.hd n hu (MO ru) (h u _ (I.tok _) ru)
theorem Wf{m:Str}{g:Addr}{pl:Sem Bool}{Q:Value×List Value→Shared→Prop}(I:Inv X pins σ H s)(e:H a=some (.ins C dx fs))(c:Cls X.K C)(k:ZE X.K C m g)(l:fs.lookup m=none)
  (h:Q (.ref g,[.ref a]) s):wpAny (model X.prog X.w) A (getMethod (.ref a) m pl) Q E s:=by
 obtain⟨mA,O,r,_,_,_⟩:=Uj I.hok e
 have hn:mA m=none:=RelO.none_of (by rw[← l];exact r m)
 exact LR I.kIn O (c.get m) k.at_ k.fn hn h
theorem Xw{y:V}{u:Value}{Q:Unit→Shared→Prop}(I:Inv X pins σ H s)(e:H a=some (.ins C dx fs))(c:Cls X.K C)(n:NoAttr X.K C f)(hl:fs.length<1000)(ry:RelV y u)
  (h:∀s',Inv X pins σ (upd H a (.ins C dx (yU f y fs))) s'→Q () s'):wpAny (model X.prog X.w) A (setAttr (.ref a) f u) Q E s:=by
 obtain⟨mA,O,r,wi,_,ho⟩:=Uj I.hok e
 have hz:(fs.map (·.1)).length≤sizeLine:=by rw[List.length_map,sizeLine_eq];lia
 refine zc6 I.kIn O c.sa c.po n.taker c.hd wi hz fun h' O' sb=>h _ ?_
 have hd:∃o,h'.get? dx=some o:=let ⟨o,_,_,e',_⟩:=O'.ns;⟨o,e'⟩
 refine I.write (x:=a) (e:=dx) (by rw[e];exact True.intro) (.inr ho) (fun b q hb z=>(sb.2 b hb).trans z) hd ?_
 refine⟨by rw[zj O.ne];exact ho,?_,O.ne,O'.obj,_,O'.ns,fun g=>?_,fun g hg=>?_⟩
 ·have:=YT f y fs;lia
 ·show RelO ((yU f y fs).lookup g) (if g=f then some u else mA g)
  rw[jD]
  by_cases q:g=f
  ·rw[if_pos q,if_pos q];exact ry
  ·rw[if_neg q,if_neg q];exact r g
 ·by_cases q:g=f
  ·rw[q];exact(YI f y fs).1
  ·refine(YI f y fs).2 g (wi g fun z=>hg ?_)
   show(if g=f then some u else mA g)=none
   rw[if_neg q];exact z
theorem Inv.made(I:Inv X pins σ H s):Inv X pins σ (upd (upd H s.heap.objs.size (.own (s.heap.objs.size+1))) (s.heap.objs.size+1) (.ins C s.heap.objs.size []))
  { s with heap:=(s.heap.push emptyDict).push (instObj C s.heap.objs.size) }:=by
 have e1:(s.heap.push emptyDict).get? s.heap.objs.size=some emptyDict:=Heap.get?_push_size s.heap rfl
 have e2:((s.heap.push emptyDict).push (instObj C s.heap.objs.size)).get? (s.heap.objs.size+1)=some (instObj C s.heap.objs.size):=by
  have:=Heap.get?_push_size (s.heap.push emptyDict) (o:=instObj C s.heap.objs.size) rfl
  rwa [Heap.size_push] at this
 have e3:(s.heap.push emptyDict).Ns s.heap.objs.size (fun _=>none):=⟨emptyDict,#[],_,e1,rfl,(fun e he=>absurd he (by simp)),fun _=>rfl⟩
 have I1:=I.laid (a:=s.heap.objs.size) (o:=.own (s.heap.objs.size+1)) (h':=s.heap.push emptyDict) (t':=s.toks) (fun b u q=>get?_push_of_some _ q) (Nat.le_refl _) ⟨_,e1⟩
 refine I1.laid (a:=s.heap.objs.size+1) (o:=.ins C s.heap.objs.size []) (t':=s.toks) (fun b u q=>get?_push_of_some _ q) (Nat.le_of_eq (Heap.size_push _ _)) ?_
 have ne:s.heap.objs.size≠s.heap.objs.size+1:=Nat.ne_of_lt (Nat.lt_succ_self _)
 refine⟨by rw[zj ne,zp],Nat.zero_le _,ne,e2,fun _=>none,(Heap.Ns1.of_empty e3).at fun o q=>get?_push_of_some _ q,fun _=>True.intro,fun y hy=>absurd rfl hy⟩
theorem zk3{prog:Program}{w:World}{env:Env}{e:Expr}{f:Str}{pos:Pos}{s:Shared}{Q:Value→Shared→Prop}(hb:attributeBase e f env (eval e env)=eval e env)
  (h:wpAny (model prog w) A (eval e env) (fun o s₁=>wpAny (model prog w) A (getAttr o f true) Q E s₁) E s):wpAny (model prog w) A (eval (.Attribute e f pos) env) Q E s:=
 Attribute_any_ h (by rw[arm_eval_Attribute,hb])
end
noncomputable def tFld(K:Frag)(ta:TE)(f:Str):TE:=fun σ H Q=>ta σ H fun x H1=>∃a C dx fs v,x=.ref a∧H1 a=some (.ins C dx fs)∧Cls K C∧NoAttr K C f∧fs.lookup f=some v∧Q v H1
noncomputable def sFld(K:Frag)(ta tv:TE)(f:Str):TS:=fun D σ H=>tv σ H fun y H1=>ta σ H1 fun x H2=>∃a C dx fs,x=.ref a∧H2 a=some (.ins C dx fs)∧Cls K C∧NoAttr K C f∧fs.length<1000 ∧
 D.nx σ (upd H2 a (.ins C dx (yU f y fs)))
noncomputable def InOp(X:Cx)(op:Operator)(rd:V→V→Hp→VK→Prop):Prop:=
 ∀(pins:List (Addr×Obj)) (s:Shared) (σ:St) (H:Hp) (x y:V) (u v:Value) (Q:VK),Inv X pins σ H s→RelV x u→RelV y v→rd x y H Q→wpAny (model X.prog X.w) X.A (inplaceOp op u v) (EP X pins σ Q) X.xe s
noncomputable def zc9(K:Frag)(ta tv:TE)(rd:V→V→Hp→VK→Prop)(f:Str):TS:=fun D σ H=>ta σ H fun x H1=>∃a C dx fs v,x=.ref a∧H1 a=some (.ins C dx fs)∧Cls K C∧NoAttr K C f∧fs.lookup f=some v ∧
 tv σ H1 fun y H2=>rd v y H2 fun z H3=>∃dx' fs',H3 a=some (.ins C dx' fs')∧fs'.length<1000∧D.nx σ (upd H3 a (.ins C dx' (yU f z fs')))
section
variable{X:Cx}{o e value:Expr}{f:Str}{pos pos' tpos:Pos}{ta tv:TE}
theorem TK(he:PE X e ta)(hb:attributeBase e f X.env (eval e X.env)=eval e X.env):PE X (.Attribute e f pos) (tFld X.K ta f):=by
 intro pins s σ H Q I h
 refine zk3 hb (thn (he pins s σ H _ I h) fun u s1 z_=>?_)
 obtain⟨x,H1,I1,rx,a,C,dx,fs,v,ex,ea,c,n,l,q⟩:=z_
 subst ex
 obtain rfl:u=Value.ref a:=rx
 exact Wg I1 ea c n l fun u' s2 I2 ru=>⟨v,H1,I2,ru,q⟩
theorem VY(ha:PE X o ta)(hv:PE X value tv)(hs:swapsWith value (some (.Attribute o f pos')) pos.line X.env=pure false):PS X (.Assign [.Attribute o f pos'] value pos) (sFld X.K ta tv f):=by
 intro pins s σ H D I h
 refine plainObj_wpAny_Assign_Attribute (thn (hv pins s σ H _ I h) fun u s1 ⟨y,H1,I1,ry,q⟩=>thn (ha pins s1 σ H1 _ I1 q) fun ov s2 z_=>?_) hs
 obtain⟨x,H2,I2,rx,a,C,dx,fs,ex,ea,c,n,l,q2⟩:=z_
 subst ex
 obtain rfl:ov=Value.ref a:=rx
 exact Xw I2 ea c n l ry fun s3 I3=>⟨σ,_,I3,q2⟩
theorem Va{op:Operator}{rd:V→V→Hp→VK→Prop}(ha:PE X o ta)(hv:PE X value tv)(hop:InOp X op rd):PS X (.AugAssign (.Attribute o f tpos) op value pos) (zc9 X.K ta tv rd f):=by
 intro pins s σ H D I h
 refine wpAny_AugAssign_AttributeAny (thn (ha pins s σ H _ I h) fun ov s1 z_=>?_)
 obtain⟨x,H1,I1,rx,a,C,dx,fs,v,ex,ea,c,n,l,q⟩:=z_
 subst ex
 obtain rfl:ov=Value.ref a:=rx
 refine Wg I1 ea c n l fun u s2 I2 ru=>thn (hv pins s2 σ H1 _ I2 q) fun w3 s3 ⟨y,H2,I3,ry,q3⟩=>thn (hop pins s3 σ H2 v y u w3 _ I3 ru ry q3) fun w4 s4 z_=>?_
 refine X22 z_ fun z H3 I4 rz r21_=>?_;refine X22 r21_ fun dx' fs' ea' l' q4=>?_
 exact Xw I4 ea' c n l' rz fun s5 I5=>⟨σ,_,I5,q4⟩
noncomputable def rAdd:V→V→Hp→VK→Prop:=fun x y H Q=>∃i j,x=.int i∧y=.int j∧Q (.int (i+j)) H
theorem LO:InOp X .Add rAdd:=by
 rintro pins s σ H x y u v Q I rx ry ⟨i,j,rfl,rfl,q⟩
 obtain⟨t,rfl⟩:=(show ∃t,u=Value.int i t from rx)
 obtain⟨t',rfl⟩:=(show ∃t',v=Value.int j t' from ry)
 exact PyProof.Rows.iadd_int ⟨.int (i+j),H,I.tok _,⟨_,rfl⟩,q⟩
end
section
variable{X:Cx}{pins:List (Addr×Obj)}{σ:St}{H:Hp}{s:Shared}{A:Around}{E:Value→Shared→Prop}{Q:Value→Shared→Prop}{c:Value}{b:Bool}
end
structure Room(k:Nat)(A:Around):Prop where
 hd:A.handled=none
 dp:A.depth+3*k+5<recursionLimit
 un:A.units+16*k+200<cLine
theorem Room.mono{j k:Nat}{A:Around}(r:Room k A)(h:j≤k):Room j A:=⟨r.hd,by have:=r.dp;lia,by have:=r.un;lia⟩
theorem Room.deeper{k:Nat}{A:Around}(r:Room (k+1) A)(env:Env):Room k (A.deeper env):=
 ⟨r.hd,by have:=r.dp;show A.depth+1+3*k+5<_;lia,by have:=r.un;show A.units+3+16*k+200<_;lia⟩
theorem Room.in1{k:Nat}{A:Around}(r:Room (k+1) A):Room k A.in1:=
 ⟨r.hd,by have:=r.dp;show A.depth+3*k+5<_;lia,by have:=r.un;show A.units+1+16*k+200<_;lia⟩
theorem Qh{A:Around}{C:Addr}{us:List Value}{kw:List (Str×Value)}:(A.under (.builtin "type.__call__" ⟨.ref C::us,kw⟩)).depth=A.depth+1:=by
 first|rfl|simp[Around.under,Code.weight,Code.isCreation,Code.isGuard,Code.isCaller,Code.frames,Code.isFrame,guardIds]
theorem Qg{A:Around}{C:Addr}{us:List Value}{kw:List (Str×Value)}:(A.under (.builtin "type.__call__" ⟨.ref C::us,kw⟩)).units=A.units+1:=by
 first|rfl|simp[Around.under,Code.cUnits,Code.frames,Code.isFrame]
theorem Room.make{k:Nat}{A:Around}(r:Room (k+1) A)(C:Addr)(us:List Value)(kw:List (Str×Value)):Room k (A.under (.builtin "type.__call__" ⟨.ref C::us,kw⟩)):=
 ⟨r.hd,by have:=r.dp;rw[Qh];lia,by have:=r.un;rw[Qg];lia⟩
theorem Room.depth{k:Nat}{A:Around}(r:Room k A):A.depth<recursionLimit:=by have:=r.dp;lia
theorem Room.units{k:Nat}{A:Around}(r:Room k A):A.units+64<cLine:=by have:=r.un;lia
noncomputable def JN:TA:=fun _ H Q=>Q [] H
noncomputable def ZG(ta:TE)(tr:TA):TA:=fun σ H Q=>ta σ H fun x H1=>tr σ H1 fun xs H2=>Q (x::xs) H2
section
variable{X:Cx}{e:Expr}{es:List Expr}{te:TE}{t:TA}{pos:Pos}
theorem vb:PA X [] JN:=fun _ _ _ _ H Q I h=>Calls.spliced_nil ⟨[],H,I,.nil,h⟩
theorem xD(ha:PE X e te)(hr:PA X es t)(hs:starEach (e::es) X.env=(false,eval e X.env)::starEach es X.env:=by rfl):PA X (e::es) (ZG te t):=by
 intro pos pins s σ H Q I h
 rw[hs]
 show wpAny _ _ (spliced ((false,eval e X.env)::backTo pos (starEach es X.env))) _ _ s
 refine Calls.spliced_cons (thn (ha pins s σ H _ I h) fun u s1 z_=>?_)
 refine X22 z_ fun x H1 I1 r1 q1=>?_
 exact thn (hr pos pins s1 σ H1 _ I1 q1) fun us s2 z_=>by refine X22 z_ fun xs H2 I2 r2 q2=>?_;exact Y22 (x::xs) H2 I2 (.cons r1 r2) q2
noncomputable def tTup(t:TA):TE:=fun σ H Q=>t σ H fun xs H1=>xs.length≤sizeLine∧∀p,H1 p=none→Q (.ref p) (upd H1 p (.tup xs))
noncomputable def tLst(t:TA):TE:=fun σ H Q=>t σ H fun xs H1=>xs.length≤sizeLine∧∀p,H1 p=none→Q (.ref p) (upd H1 p (.lst xs))
theorem zp0{x1}(h:PA X es t):PE X (.Tuple es x1 pos) (tTup t):=by
 intro pins s σ H Q I hq
 refine wpAny_Tuple_spliced (thn (h pos pins s σ H _ I hq) fun us s1 ⟨xs,H1,I1,r,z,q⟩=>⟨by rw[← r.length];exact z,?_⟩)
 have hf:H1 s1.heap.objs.size=none:=I1.hok.fresh (Nat.le_refl _)
 refine Y22 (.ref s1.heap.objs.size) (upd H1 s1.heap.objs.size (.tup xs)) (I1.laid (t':=s1.toks) (fun b u e=>get?_push_of_some _ e) (Nat.le_refl _) ?_) rfl (q _ hf)
 exact⟨z,us,r,⟨_,Heap.get?_push_size _ rfl,rfl,_,rfl⟩⟩
theorem J2(h:PA X es t):PE X (.List es pos) (tLst t):=by
 intro pins s σ H Q I hq
 refine wpAny_List_spliced (thn (h pos pins s σ H _ I hq) fun us s1 ⟨xs,H1,I1,r,z,q⟩=>⟨by rw[← r.length];exact z,?_⟩)
 have hf:H1 s1.heap.objs.size=none:=I1.hok.fresh (Nat.le_refl _)
 refine Y22 (.ref s1.heap.objs.size) (upd H1 s1.heap.objs.size (.lst xs)) (I1.laid (t':=s1.toks) (fun b u e=>get?_push_of_some _ e) (Nat.le_refl _) ?_) rfl (q _ hf)
 exact⟨z,us,0,r,Heap.get?_push_size _ rfl⟩
end
noncomputable abbrev Sp:=List V→Hp→VK→XK→Prop
noncomputable abbrev CXT:=List Env→Hp→Shared→XK→Value→Shared→Prop
structure Env0(P:Program)(w:World)(K:Frag)(mg:Str→Option Value)(base:Heap)(A:Around)(outer:List Env)(s:Shared)(H:Hp):Prop where
 frames:A.frames=some outer
 mod:Mod K mg base
 bs:∀b o,base.get? b=some o→s.heap.get? b=some o∧H b=none
 bsz:base.objs.size≤s.heap.objs.size
 funs:s.heap.FunFrames base outer
 frf:∀b∈frs outer,H b=none
 hok:HOk P w H s.heap
 bare:AllBare s.gens
noncomputable def CE(outer:List Env)(P:Program)(w:World)(H:Hp)(s:Shared)(Q:VK)(u:Value)(s':Shared):Prop:=
 ∃v H',s'.os=s.os∧AllBare s'.gens∧Un (frs outer) [] H H' s.heap s'.heap∧HOk P w H' s'.heap∧RelV v u∧Q v H'
noncomputable def CR(CX:CXT)(outer:List Env)(P:Program)(w:World)(H:Hp)(s:Shared)(Q:VK)(E:XK)(r:Result)(s':Shared):Prop:=
 match r with
 | .ok (.ret u)=>CE outer P w H s Q u s'
 |.ok _=>False
 |.error e=>CX outer H s E e s'
structure FnOk(P:Program)(w:World)(K:Frag)(mg:Str→Option Value)(base:Heap)(CX:CXT)(k:Nat)(f:Addr)(fd:FuncData)(ps:List Str)(sp:Sp):Prop where
 len:∀vs H Q E,sp vs H Q E→vs.length=ps.length
 run:∀(A:Around) (outer:List Env) (s:Shared) (H:Hp) (args:Args) (us:List Value) (vs:List V) (Q:VK) (E:XK),Room k A→Env0 P w K mg base A outer s H→BindsTo s fd args (ps.zip us)→Vals vs us→sp vs H Q E →
  codeAny (model P w) A (.call (.ref f) args) (CR CX outer P w H s Q E) s
theorem FnOk.imp{P:Program}{w:World}{K:Frag}{mg:Str→Option Value}{base:Heap}{CX:CXT}{k:Nat}{f:Addr}{fd:FuncData}{ps:List Str}{sp sp':Sp}(F:FnOk P w K mg base CX k f fd ps sp)
  (h:∀vs H Q E,sp' vs H Q E→sp vs H Q E):FnOk P w K mg base CX k f fd ps sp':=
 ⟨fun vs H Q E q=>F.len vs H Q E (h _ _ _ _ q),fun A outer s H args us vs Q E hr he hb hv hs=>F.run A outer s H args us vs Q E hr he hb hv (h _ _ _ _ hs)⟩
theorem Env0.make{P:Program}{w:World}{K:Frag}{mg:Str→Option Value}{base:Heap}{A:Around}{outer:List Env}{s:Shared}{H:Hp}(e:Env0 P w K mg base A outer s H)(C:Addr)(us:List Value)(kw:List (Str×Value)) :
  Env0 P w K mg base (A.under (.builtin "type.__call__" ⟨.ref C::us,kw⟩)) outer s H:=⟨by first|exact e.frames | (simpa[Around.under,Code.envs,Code.isFrame,pushEnvs] using e.frames),e.mod,e.bs,e.bsz,e.funs,e.frf,e.hok,e.bare⟩
section
variable{X:Cx}{pins:List (Addr×Obj)}{σ:St}{H:Hp}{s s':Shared}
theorem Inv.env0(I:Inv X pins σ H s):Env0 X.prog X.w X.K X.mg X.base X.A X.stack s H:=
 ⟨I.ok.frames,I.ok.mod,I.bs,Nat.le_trans I.ok.bsz I.sz,I.stack,I.stkFree,I.hok,I.bare⟩
theorem Inv.after{Q:VK}{u:Value}(I:Inv X pins σ H s)(h:CE X.stack X.prog X.w H s Q u s'):EP X pins σ Q u s':=by
 obtain⟨v,H',os,bare,un,hok,r,q⟩:=h
 obtain⟨hh,g,d,t,os'⟩:=s'
 obtain rfl:os'=s.os:=os
 exact Y22 v H' (I.call (h':=hh) (g':=g) (d':=d) (t':=t) (ch:=[]) un hok bare (fun b z=>absurd z (by simp))) r q
end
noncomputable def UF(sp:Sp)(dvs:List V)(E:XK)(t:TA):TE:=fun σ H Q=>t σ H fun vs H1=>sp (vs++dvs) H1 Q E
noncomputable def QL(C:Addr)(m:Str)(sp:Sp)(dvs:List V)(E:XK)(ta:TE)(t:TA):TE:=fun σ H Q=>ta σ H fun x H1=>∃a dx fs,x=.ref a∧H1 a=some (.ins C dx fs)∧fs.lookup m=none ∧
 t σ H1 fun vs H2=>sp (x::(vs++dvs)) H2 Q E
noncomputable def zl4(C:Addr)(sp:Sp)(dvs:List V)(E:XK)(t:TA):TE:=fun σ H Q=>t σ H fun vs H1=>∀x dx,H1 x=none→H1 dx=none→dx≠x →
 sp (.ref x::(vs++dvs)) (upd (upd H1 dx (.own x)) x (.ins C dx [])) (fun v H2=>v=.non∧Q (.ref x) H2) E
noncomputable def Binds(K:Frag)(fd:FuncData)(ps:List Str)(ds:List Value):Prop:=
 ∀(s:Shared) (us:List Value),K.In s.heap→(us++ds).length=ps.length→BindsTo s fd ⟨us,[]⟩ (ps.zip (us++ds))
theorem Binds.all{K:Frag}{fd:FuncData}{ps:List Str}(h:∀us:List Value,us.length=ps.length→bindArgs fd ⟨us,[]⟩=pure (ps.zip us)):Binds K fd ps []:=fun s us _ hl=>by
 rw[List.append_nil] at hl ⊢
 exact .of_eq (h us hl)
noncomputable def ZD(CX:CXT)(X:Cx)(E:XK):Prop:=∀(pins:List (Addr×Obj)) (σ:St) (H:Hp) (s:Shared) (e:Value) (s':Shared),Inv X pins σ H s→CX X.stack H s E e s'→X.xe e s'
section
variable{X:Cx}{CX:CXT}{k:Nat}{f C:Addr}{fd:FuncData}{ps:List Str}{sp:Sp}{dvs:List V}{ds:List Value}{E:XK}{x m:Str}{p pos apos:Pos}{e o:Expr}{es:List Expr}{ta:TE}{t:TA}
theorem J0{pins:List (Addr×Obj)}{σ:St}{H:Hp}{s:Shared}{Q:VK}{us:List Value}{vs:List V}(F:FnOk X.prog X.w X.K X.mg X.base CX k f fd ps sp)(hr:Room k X.A)(hb:Binds X.K fd ps ds)(hd:Vals dvs ds)(hx:ZD CX X E)
  (I:Inv X pins σ H s) (r:Vals vs us) (h:sp (vs++dvs) H Q E):wpAny (model X.prog X.w) X.A (call (.ref f) us) (EP X pins σ Q) X.xe s:=by
 have r2:Vals (vs++dvs) (us++ds):=r.append hd
 have hl:(us++ds).length=ps.length:=by rw[← r2.length];exact F.len _ _ _ _ h
 refine wpAny_call (codeAny_mono (F.run X.A X.stack s H ⟨us,[]⟩ (us++ds) (vs++dvs) Q E hr I.env0 (hb s us I.kIn hl) r2 h) fun r s' hq=>?_)
 cases r with
 |error e=>exact hx pins σ H s e s' I hq
 |ok fl=>
  cases fl with
  |ret u=>exact I.after hq
  |next=>exact False.elim hq
  |brk=>exact False.elim hq
  |cont=>exact False.elim hq
theorem ZQ(F:FnOk X.prog X.w X.K X.mg X.base CX k f fd ps sp)(hr:Room k X.A)(hg:Gl X x)(hm:X.mg x=some (.ref f))(hk:keepIn X.K (.ref f)=true)(hb:Binds X.K fd ps ds)(hd:Vals dvs ds)(hx:ZD CX X E)
  (ha:PA X (e::es) t) (hdb:(x==("__debug__" : Str))=false:=by decide) (he:starEach (e::es) X.env=(false,eval e X.env)::starEach es X.env:=by rfl) (hpl:(backTo pos (starEach es X.env)).any (·.1)=false:=by rfl) :
  PE X (.Call (.Name x p) (e::es) [] pos) (UF sp dvs E t):=by
 intro pins s σ H Q I h
 refine wpAny_Call_Name_kw (Uf I hg hm ?_ hdb)
 refine callWith_K (h₀:=X.base) I.ok.mod.kin hk (thn (ha pos pins s σ H _ I h) fun us s1 ⟨vs,H1,I1,r,q⟩=>⟨I1.kIn,?_⟩) he hpl
 exact J0 F hr hb hd hx I1 r q
theorem Q4{pl:Sem Bool}(he:PE X o ta)(c:Cls X.K C)(hm:ZE X.K C m f)(F:FnOk X.prog X.w X.K X.mg X.base CX k f fd ps sp)(hr:Room k X.A)(hb:Binds X.K fd ps ds)(hd:Vals dvs ds)(hx:ZD CX X E)(ha:PA X (e::es) t)
  (hst:starEach (e::es) X.env=(false,eval e X.env)::starEach es X.env:=by rfl) (hpl:(backTo pos (starEach es X.env)).any (·.1)=false:=by rfl)
  (ht:eval (.Call (.Attribute o m apos) (e::es) [] pos) X.env=(do
   let ov ← eval o X.env
   standAt apos.atName
   let (f,first) ← holding [ov] (getMethod ov m pl)
   callWith pos f first (backTo pos (starEach (e::es) X.env)) (backToKw pos (keywordEach [] X.env))):=by rfl) :
  PE X (.Call (.Attribute o m apos) (e::es) [] pos) (QL C m sp dvs E ta t):=by
 intro pins s σ H Q I h
 refine PySem.W.methodCall_KW (pl:=pl) (thn (he pins s σ H _ I h) fun u s1 z_=>?_) ht
 obtain⟨x,H1,I1,rx,a,dx,fs,ex,ea,l,q⟩:=z_
 subst ex
 obtain rfl:u=Value.ref a:=rx
 refine Wf I1 ea c hm l ?_
 refine callWith_K (first:=[.ref a]) (h₀:=X.base) I.ok.mod.kin hm.kp (thn (ha pos pins s1 σ H1 _ I1 q) fun us s2 ⟨vs,H2,I2,r,q2⟩=>⟨I2.kIn,?_⟩) hst hpl
 exact J0 (us:=.ref a::us) (vs:=.ref a::vs) F hr hb hd hx I2 (.cons rfl r) q2
theorem UV{pl:Sem Bool}(he:PE X o ta)(c:Cls X.K C)(hm:ZE X.K C m f)(F:FnOk X.prog X.w X.K X.mg X.base CX k f fd ps sp)(hr:Room k X.A)(hb:Binds X.K fd ps ds)(hd:Vals dvs ds)(hx:ZD CX X E)
  (ht:eval (.Call (.Attribute o m apos) [] [] pos) X.env=(do
   let ov ← eval o X.env
   standAt apos.atName
   let (f,first) ← holding [ov] (getMethod ov m pl)
   callWith pos f first (backTo pos (starEach [] X.env)) (backToKw pos (keywordEach [] X.env))):=by rfl) :
  PE X (.Call (.Attribute o m apos) [] [] pos) (QL C m sp dvs E ta JN):=by
 intro pins s σ H Q I h
 refine PySem.W.methodCall_KW (pl:=pl) (thn (he pins s σ H _ I h) fun u s1 z_=>?_) ht
 obtain⟨x,H1,I1,rx,a,dx,fs,ex,ea,l,q⟩:=z_
 subst ex
 obtain rfl:u=Value.ref a:=rx
 refine Wf I1 ea c hm l ?_
 exact PySem.W.callWith_K0 (first:=[.ref a]) I1.kIn hm.kp (J0 (us:=[.ref a]) (vs:=[.ref a]) F hr hb hd hx I1 (.cons rfl .nil) q)
structure Mk(K:Frag)(C f:Addr):Prop where
 makes:makesIn K C=true
 init:findIn K (.ref C) "__init__" = some (some (.ref f))
 fn:isFn K (.ref f)=true
 kp:keepIn K (.ref C)=true
theorem Tt{pins:List (Addr×Obj)}{σ:St}{H:Hp}{s:Shared}{Q:VK}{us:List Value}{vs:List V}(M:Mk X.K C f)(F:FnOk X.prog X.w X.K X.mg X.base CX k f fd ps sp)(hr:Room (k+1) X.A)(hb:Binds X.K fd ps ds)(hd:Vals dvs ds)
  (hx:ZD CX X E) (I:Inv X pins σ H s) (r:Vals vs us)
  (h:∀x dx,H x=none→H dx=none→dx≠x→sp (.ref x::(vs++dvs)) (upd (upd H dx (.own x)) x (.ins C dx [])) (fun v H2=>v=.non∧Q (.ref x) H2) E) :
  wpAny (model X.prog X.w) X.A (call (.ref C) us) (EP X pins σ Q) X.xe s:=by
 have hq:=h (s.heap.objs.size+1) s.heap.objs.size (I.hok.fresh (Nat.le_succ _)) (I.hok.fresh (Nat.le_refl _)) (Nat.ne_of_lt (Nat.lt_succ_self _))
 have I2:=Inv.made (C:=C) I
 have r2:Vals (V.ref (s.heap.objs.size+1)::(vs++dvs)) (Value.ref (s.heap.objs.size+1)::(us++ds)):=.cons rfl (r.append hd)
 have hl:(Value.ref (s.heap.objs.size+1)::us++ds).length=ps.length:=by
  have e:=r2.length
  rw[F.len _ _ _ _ hq] at e
  exact e.symm
 refine wpAny_call (Lu (f:=f) I.kIn M.makes M.init (beq_iff_eq.mp M.fn) (codeAny_mono (F.run _ X.stack _ _ ⟨Value.ref (s.heap.objs.size+1)::us,[]⟩ (Value.ref (s.heap.objs.size+1)::(us++ds)) _ _ E (hr.make C us [])
  (I2.env0.make C us []) (hb _ (Value.ref (s.heap.objs.size+1)::us) I2.kIn hl) r2 hq) fun r s' hq'=>?_))
 cases r with
 |error e=>exact hx pins σ _ _ e s' I2 hq'
 |ok fl=>
  cases fl with
  |ret u=>
   refine X23 (I2.after hq') fun v H' I3 rv ev q3=>?_
   subst ev
   exact⟨rv,⟨V.ref (s.heap.objs.size+1),H',I3,rfl,q3⟩⟩
  |next=>exact False.elim hq'
  |brk=>exact False.elim hq'
  |cont=>exact False.elim hq'
theorem ze4(M:Mk X.K C f)(F:FnOk X.prog X.w X.K X.mg X.base CX k f fd ps sp)(hr:Room (k+1) X.A)(hg:Gl X x)(hm:X.mg x=some (.ref C))(hb:Binds X.K fd ps ds)(hd:Vals dvs ds)(hx:ZD CX X E)
  (ha:PA X (e::es) t) (hdb:(x==("__debug__" : Str))=false:=by decide) (he:starEach (e::es) X.env=(false,eval e X.env)::starEach es X.env:=by rfl) (hpl:(backTo pos (starEach es X.env)).any (·.1)=false:=by rfl) :
  PE X (.Call (.Name x p) (e::es) [] pos) (zl4 C sp dvs E t):=by
 intro pins s σ H Q I h
 refine wpAny_Call_Name_kw (Uf I hg hm ?_ hdb)
 refine callWith_K (h₀:=X.base) I.ok.mod.kin M.kp (thn (ha pos pins s σ H _ I h) fun us s1 ⟨vs,H1,I1,r,q⟩=>⟨I1.kIn,?_⟩) he hpl
 exact Tt M F hr hb hd hx I1 r q
end
section
variable{X:Cx}{CX:CXT}{k:Nat}{f C:Addr}{fd:FuncData}{ps ks:List Str}{sp:Sp}{E:XK}{x m:Str}{p pos apos kpos:Pos}{e o:Expr}{es:List Expr}{kws:List Keyword}{te ta:TE}{t tk:TA}{nm:Option Str}
variable{g:List Value→List Value→List Value}{gV:List V→List V→List V}
end
structure zD(N P:List Str)(sc:Scope):Prop where
 kind:sc.kind=.function
 co:sc.isCoroutine=false
 gen:sc.isGenerator=false
 nd:N.Nodup
 pre:N.take P.length=P
 par:∀x∈P,sc.names.lookup x=some .local∨sc.names.lookup x=some .cell
 nofree:∀y∈sc.names,y.2≠.free
theorem Vz{kindOf:Str→Option NameKind}{x:Str}:∀{binds:List (Str×Value)} {m:Str→Option Value},(∀v,(x,v)∉binds)→bindL kindOf binds m x=m x
 |[],_,_=>rfl
 | (n,v)::r,m,h=>by
  unfold bindL
  rw[Vz fun w hw=>h w (List.mem_cons_of_mem _ hw)]
  split
  ·have:x≠n:=by rintro rfl;exact h v List.mem_cons_self
   simp[this]
  ·rfl
theorem VB{kindOf:Str→Option NameKind}{x:Str}:∀{binds:List (Str×Value)} {m:Str→Option Value},(∀v,(x,v)∉binds)→bindC kindOf binds m x=m x
 |[],_,_=>rfl
 | (n,v)::r,m,h=>by
  unfold bindC
  rw[VB fun w hw=>h w (List.mem_cons_of_mem _ hw)]
  split
  ·rfl
  ·have:x≠n:=by rintro rfl;exact h v List.mem_cons_self
   simp[this]
theorem VA{kindOf:Str→Option NameKind}{x:Str}{v:Value}:∀{P:List Str} {vs:List Value} {i:Nat} {m:Str→Option Value},P.Nodup→P[i]?=some x→vs[i]?=some v→kindOf x=some .local →
  bindL kindOf (P.zip vs) m x=some v
 |[],_,_,_,_,h,_,_=>by simp at h
 |_::_,[],_,_,_,_,h,_=>by simp at h
 |p::P,w::vs,0,m,nd,h1,h2,hk=>by
  simp at h1 h2;subst h1;subst h2
  show bindL kindOf ((p,w)::P.zip vs) m p=_
  unfold bindL
  rw[Vz fun v hv=>(List.nodup_cons.mp nd).1 (List.of_mem_zip hv).1,if_pos hk]
  simp
 |p::P,w::vs,i+1,m,nd,h1,h2,hk=>by
  show bindL kindOf ((p,w)::P.zip vs) m x=_
  unfold bindL
  exact VA (i:=i) (List.nodup_cons.mp nd).2 (by simpa using h1) (by simpa using h2) hk
theorem VC{kindOf:Str→Option NameKind}{x:Str}{v:Value}:∀{P:List Str} {vs:List Value} {i:Nat} {m:Str→Option Value},P.Nodup→P[i]?=some x→vs[i]?=some v→kindOf x≠some .local →
  bindC kindOf (P.zip vs) m x=some v
 |[],_,_,_,_,h,_,_=>by simp at h
 |_::_,[],_,_,_,_,h,_=>by simp at h
 |p::P,w::vs,0,m,nd,h1,h2,hk=>by
  simp at h1 h2;subst h1;subst h2
  show bindC kindOf ((p,w)::P.zip vs) m p=_
  unfold bindC
  rw[VB fun v hv=>(List.nodup_cons.mp nd).1 (List.of_mem_zip hv).1,if_neg hk]
  simp
 |p::P,w::vs,i+1,m,nd,h1,h2,hk=>by
  show bindC kindOf ((p,w)::P.zip vs) m x=_
  unfold bindC
  exact VC (i:=i) (List.nodup_cons.mp nd).2 (by simpa using h1) (by simpa using h2) hk
noncomputable def start(N:List Str)(vs:List V):St:=vs.map some++List.replicate (N.length-vs.length) none
noncomputable def jJ(CX:CXT)(P:Program)(w:World)(K:Frag)(mg:Str→Option Value)(base:Heap)(N:List Str)(qual:Str)(scope:Scope)(f:Addr)(cd:Value)(A:Around)(outer:List Env)(s:Shared)(H:Hp)(E:XK):Cx where
 prog:=P
 w:=w
 K:=K
 mg:=mg
 base:=base
 A:=A.deeper (envOfC qual scope s.heap.objs.size f cd)
 N:=N
 s₀:=s
 H₀:=H
 env:=envOfC qual scope s.heap.objs.size f cd
 outer:=outer
 stack:=envOfC qual scope s.heap.objs.size f cd::outer
 ex:=[]
 calm:=true
 fn:=fun _=>true
 pn:=[]
 xe:=fun e s'=>wpAny (model P w) (A.deeper (envOfC qual scope s.heap.objs.size f cd)) (leaving (envOfC qual scope s.heap.objs.size f cd) e) (fun _ s''=>CX outer H s E e s'') (fun e' s''=>CX outer H s E e' s'') s'
theorem JH{sc:Scope}{n:Nat}{x:Str}(h:sc.names.lookup x=some .cell):∃c,(cellsFrom n sc.names []).lookup x=some c:=by
 have q:=PySem.W.cellsFrom_some sc.names n [] (.inl h)
 exact Option.isSome_iff_exists.mp q
theorem MJ{CX:CXT}{P:Program}{w:World}{K:Frag}{mg:Str→Option Value}{base:Heap}{N ps:List Str}{qual:Str}{scope:Scope}{f:Addr}{cd:Value}{A:Around}{outer:List Env}{s s1:Shared}{H:Hp}{E:XK}{us:List Value}{vs:List V}
  (S:zD N ps scope) (hd:A.handled=none) (e0:Env0 P w K mg base A outer s H) (hl:vs.length=ps.length) (r:Vals vs us)
  (x:InCallC s s.heap.objs.size (bindL (envOfC qual scope s.heap.objs.size f cd).kindOf (ps.zip us) fun _=>none) (cellsFrom (s.heap.objs.size+1) scope.names []) (bindC (envOfC qual scope s.heap.objs.size f cd).kindOf (ps.zip us) fun _=>none) s1) :
  Inv (jJ CX P w K mg base N qual scope f cd A outer s H E) [] (start N vs) H s1:=by
 have hpl:ps.length≤N.length:=by have:=congrArg List.length S.pre;rw[List.length_take] at this;lia
 obtain⟨h1,tk,rfl,hk⟩:=x.done
 have noA:∀b:Addr,b∉(jJ CX P w K mg base N qual scope f cd A outer s H E).ex:=fun b z=>absurd (show b∈([]:List Addr) from z) (by simp)
 refine⟨⟨e0.mod,S.kind,rfl,rfl,Nat.le_refl _,fun y z c h1 h2=>?_,fun y hy=>?_,fun y c _ h=>?_,fun _=>hd,Around.frames_deeper e0.frames,.inr ⟨rfl,rfl⟩,fun b z=>absurd z (noA b),e0.bs,e0.bsz,fun b _ _=>noA b,fun b z=>absurd z (noA b),e0.funs,e0.frf⟩,
  rfl,e0.bare,Un.kept hk,⟨_,x.toInCall.ns,fun i y v h1 h2 h3=>?_⟩,fun y c h=>⟨_,x.cell y c h⟩,e0.hok.fresh (Nat.le_refl _),fun y c h=>?_,fun p hp=>absurd (show p∈([]:List (Addr×Obj)) from hp) (by simp),e0.hok.kept hk,?_⟩
 ·exact name_of_addr x.apart (PySem.mem_of_lookup h1) (PySem.mem_of_lookup h2)
 ·have hy:scope.names.lookup y=some .cell∨scope.names.lookup y=some .free:=hy
  rcases hy with hy|hy
  ·exact JH hy
  ·exact absurd rfl (S.nofree _ (PySem.mem_of_lookup hy))
 ·exact Nat.le_of_lt (x.above y c (PySem.mem_of_lookup h))
 ·have hi:i<vs.length:=by
   unfold start at h2
   by_cases hi:i<vs.length
   ·exact hi
   ·rw[List.getElem?_append_right (by simpa using hi)] at h2
    rw[List.getElem?_replicate] at h2
    split at h2 <;> cases h2
  have ha:vs[i]?=some v:=by
   unfold start at h2
   rw[List.getElem?_append_left (by simpa using hi),List.getElem?_map] at h2
   cases e:vs[i]? with
   |none=>rw[e] at h2;cases h2
   |some a=>rw[e] at h2;cases h2;rfl
  refine X11 (r.get ha) fun u hu rv=>?_
  have hp:ps[i]?=some y:=by
   rw[← S.pre,List.getElem?_take_of_lt (by lia)];exact h1
  have ndP:ps.Nodup:=by rw[← S.pre];exact S.nd.sublist (List.take_sublist _ _)
  refine Y11 u rv ?_
  rcases S.par y (List.mem_of_getElem? hp) with k|k
  ·exact .inl ⟨k,VA ndP hp hu k⟩
  ·obtain⟨c,e⟩:=JH (n:=s.heap.objs.size+1) k
   refine .inr ⟨.inl k,c,e,?_⟩
   have q:=x.cell y c e
   rw[VC ndP hp hu (by show scope.names.lookup y≠_;rw[k];decide)] at q
   exact q
 ·exact e0.hok.fresh (Nat.le_of_lt (x.above y c (PySem.mem_of_lookup h)))
 ·unfold start
  show _=N.length
  rw[List.length_append,List.length_map,List.length_replicate]
  lia
theorem zm6{CX:CXT}{P:Program}{w:World}{K:Frag}{mg:Str→Option Value}{base:Heap}{k:Nat}{f:Addr}{name qual:Str}{params:Arguments}{body:List Stmt}{scope:Scope}{dV kV doc pm cdv ct oc:Value}{an od:Option Addr}
  {osl:Array (Option Value)} {N ps:List Str} {sp:Sp} (lk:K.lookup f=some ⟨oc,od,.func (fnOf name qual params body scope dV kV doc pm an cdv ct),osl⟩) (hcd:codeIn K cdv qual=true) (S:zD N ps scope)
  (len:∀vs H Q E,sp vs H Q E→vs.length=ps.length)
  (hbody:∀(A:Around) (outer:List Env) (s:Shared) (H:Hp) (vs:List V) (Q:VK) (E:XK),Room k (A.deeper (envOfC qual scope s.heap.objs.size f cdv))→sp vs H Q E →
   ∃t,PSs (jJ CX P w K mg base N qual scope f cdv A outer s H E) body t∧t { nx:=fun _ H'=>Q .non H',rt:=Q } (start N vs) H) :
  FnOk P w K mg base CX (k+1) f (fnOf name qual params body scope dV kV doc pm an cdv ct) ps sp:=by
 refine⟨len,fun A outer s H args us vs Q E hr e0 hb r hsp=>?_⟩
 have hl:=len _ _ _ _ hsp
 have KX:K.In s.heap:=e0.mod.kin.keeps fun b o e=>(e0.bs b o e).1
 have lim:s.heap.NoLimit:=e0.mod.nolimit.keeps fun b o e=>(e0.bs b o e).1
 have hkind:∀y∈ps.zip us,scope.names.lookup y.1=some .local∨(scope.names.lookup y.1=some .cell∧((cellsFrom (s.heap.objs.size+1) scope.names []).lookup y.1).isSome=true):=fun ⟨n,v⟩ hy=>by
  rcases S.par n (List.of_mem_zip hy).1 with q|q
  ·exact .inl q
  ·exact .inr ⟨q,PySem.W.cellsFrom_some _ _ _ (.inl q)⟩
 refine codeAny_call_function hr.depth (KX _ _ lk) rfl S.co S.gen rfl (PySem.W.codeRec_of KX hcd) (hb _ _ _ _ ?_)
 refine wpAny_newFunctionEnv_cells S.kind hkind fun env he s1 x=>?_
 subst he
 refine⟨lim.keeps x.toInCall.keep,codeAny_func ?_⟩
 refine X11 (hbody A outer s H vs Q E (hr.deeper _) hsp) fun t ht hq=>?_
 have I:Inv (jJ CX P w K mg base N qual scope f cdv A outer s H E) [] (start N vs) H s1:=MJ S hr.hd e0 hl r x
 refine wpAny_mono (ht [] s1 (start N vs) H _ I hq) (fun fl s' hs=>?_) fun e s' hs=>hs
 have fin:∀{σ':St} {H':Hp} {v:V} {u:Value},Inv (jJ CX P w K mg base N qual scope f cdv A outer s H E) [] σ' H' s'→RelV v u→Q v H'→CE outer P w H s Q u s':=
  fun {σ' H' v u} J rv q=>⟨v,H',J.os,J.bare,J.base,J.hok,rv,q⟩
 cases fl with
 |ret u=>
  obtain⟨v,σ',H',J,rv,q⟩:=hs
  exact fin J rv q
 |next=>
  refine X21 hs fun σ' H' J q=>?_
  exact fin (v:=V.non) (u:=Value.none) J rfl q
 |brk=>
  refine X21 hs fun _ _ _ q=>?_
  exact False.elim q
 |cont=>
  refine X21 hs fun _ _ _ q=>?_
  exact False.elim q
section
variable{X:Cx}{x:Str}{p pos:Pos}{e:Expr}{es:List Expr}{t:TA}{id T:String}{r:List V→Hp→VK→Prop}
noncomputable def tCB(r:List V→Hp→VK→Prop)(t:TA):TE:=fun σ H Q=>t σ H fun vs H1=>r vs H1 Q
theorem pe_callB(hc:CallR X (.builtin id) r)(hg:Gl X x)(hm:X.mg x=none)(hv:bootBuiltins x=some (.builtin id))(ha:PA X (e::es) t)(hn:x ≠ "__name__" := by decide)(hdb:(x==("__debug__" : Str))=false:=by decide)
  (he:starEach (e::es) X.env=(false,eval e X.env)::starEach es X.env:=by rfl) (hpl:(backTo pos (starEach es X.env)).any (·.1)=false:=by rfl):PE X (.Call (.Name x p) (e::es) [] pos) (tCB r t):=by
 intro pins s σ H Q I h
 refine wpAny_Call_Name_kw (ja I hg hm hv ?_ hn hdb)
 exact PyProof.Rows.callWith_builtin1 (thn (ha pos pins s σ H _ I h) fun us s1 ⟨vs,H1,I1,r1,q1⟩=>hc pins s1 σ H1 vs us Q I1 r1 q1) he hpl
theorem pe_callTy(hc:CallR X (.type T) r)(hg:Gl X x)(hm:X.mg x=none)(hv:bootBuiltins x=some (.type T))(ha:PA X (e::es) t)(hn:x ≠ "__name__" := by decide)(hdb:(x==("__debug__" : Str))=false:=by decide)
  (he:starEach (e::es) X.env=(false,eval e X.env)::starEach es X.env:=by rfl) (hpl:(backTo pos (starEach es X.env)).any (·.1)=false:=by rfl):PE X (.Call (.Name x p) (e::es) [] pos) (tCB r t):=by
 intro pins s σ H Q I h
 refine wpAny_Call_Name_kw (ja I hg hm hv ?_ hn hdb)
 exact PyProof.Rows.callWith_type1 (thn (ha pos pins s σ H _ I h) fun us s1 ⟨vs,H1,I1,r1,q1⟩=>hc pins s1 σ H1 vs us Q I1 r1 q1) he hpl
end
end L2
namespace HT
open PySem PyProof.Rows
section
open PySem.SeqAt
open PySem.AutoSeq1 (wpAny_loadPart')
open PySem.MeetsSeq PySem.MeetsSeq2 PySem.MeetsSeq3
end
section
variable{prog:Program}{w:World}{A:Around}{E:Value→Shared→Prop}{s:Shared}
noncomputable def sIx(n d:Nat):Option Int→Nat
 |none=>d
 |some v=>if v<0 then (v+(n:Int)).toNat else min v.toNat n
end
end HT
namespace L2
open PySem PySem.Spec PyProof.Rows
noncomputable abbrev TO:=St→Hp→(Option Int→Hp→Prop)→Prop
noncomputable def PO(X:Cx)(e:Option Expr)(t:TO):Prop:=
 ∀(pins:List (Addr×Obj)) (s:Shared) (σ:St) (H:Hp) (Q:Option Int→Hp→Prop),Inv X pins σ H s→t σ H Q →
  wpAny (model X.prog X.w) X.A (evalPart e X.env) (fun u s'=>∃o H',Inv X pins σ H' s'∧IsPart u o∧Q o H') X.xe s
noncomputable def zb8:TO:=fun _ H Q=>Q none H
noncomputable def tPart(t:TE):TO:=fun σ H Q=>t σ H fun x H1=>∃i,x=.int i∧Q (some i) H1
section
variable{X:Cx}{e:Expr}{te:TE}{lo hi:Option Expr}{tl th:TO}{pos p2:Pos}
theorem ze1:PO X none zb8:=by
 intro pins s σ H Q I h
 rw[evalPart_none]
 exact wpAny_pure ⟨none,H,I,.none,h⟩
theorem ze0(h:PE X e te):PO X (some e) (tPart te):=by
 intro pins s σ H Q I hw
 rw[evalPart_some]
 refine thn (h pins s σ H _ I hw) fun u s1 z_=>?_
 refine X22 z_ fun x H1 I1 r1 q1=>?_
 obtain⟨i,rfl,q⟩:=q1
 obtain⟨t,rfl⟩:=r1
 exact Y22 (some i) H1 I1 (.int i t) q
noncomputable def SlR(X:Cx)(r:V→Option Int→Option Int→Hp→VK→Prop):Prop:=
 ∀(pins:List (Addr×Obj)) (s:Shared) (σ:St) (H:Hp) (x:V) (v vl vu:Value) (lo hi:Option Int) (sl:Addr) (Q:VK),Inv X pins σ H s→RelV x v→s.heap.IsSliceOf sl vl vu .none→IsPart vl lo→IsPart vu hi→r x lo hi H Q →
  ∃T id,typeLookup (.type T) "__getitem__" = pure (some (.builtin id))∧s.TypeIs v T∧wpAny (model X.prog X.w) X.A (getItem v (.ref sl)) (EP X pins σ Q) X.xe s
theorem SlR.or{r r':V→Option Int→Option Int→Hp→VK→Prop}(h:SlR X r)(h':SlR X r'):SlR X (fun x lo hi H Q=>r x lo hi H Q∨r' x lo hi H Q):=by
 intro pins s σ H x v vl vu lo hi sl Q I rx hs pl pu q
 rcases q with q|q
 ·exact h pins s σ H x v vl vu lo hi sl Q I rx hs pl pu q
 ·exact h' pins s σ H x v vl vu lo hi sl Q I rx hs pl pu q
noncomputable def tSl(r:V→Option Int→Option Int→Hp→VK→Prop)(te:TE)(tl th:TO):TE:=fun σ H Q=>te σ H fun x H1=>tl σ H1 fun l H2=>th σ H2 fun u H3=>r x l u H3 Q
theorem UU{r:V→Option Int→Option Int→Hp→VK→Prop}(hr:SlR X r)(he:PE X e te)(hl:PO X lo tl)(hu:PO X hi th):PE X (.Subscript e (.Slice lo hi none p2) pos) (tSl r te tl th):=by
 intro pins s σ H Q I h
 refine Subscript_ (thn (he pins s σ H _ I h) fun v s1 z_=>?_)
 refine X22 z_ fun x H1 I1 r1 q1=>?_
 refine wpAny_Slice (thn (hl pins s1 σ H1 _ I1 q1) fun vl s2 ⟨l,H2,I2,pl,q2⟩=>thn (hu pins s2 σ H2 _ I2 q2) fun vu s3 z_=>?_)
 refine X22 z_ fun u H3 I3 pu q3=>?_
 rw[evalPart_none]
 refine wpAny_pure ?_
 have I4:Inv X pins σ H3 { s3 with heap:=s3.heap.push { cls:=.type "slice", data:=.fields #[vl,vu,.none] } }:=I3.kept (t':=s3.toks) fun b ob q=>get?_push_of_some _ q
 refine X22 (hr pins { s3 with heap:=s3.heap.push { cls:=.type "slice", data:=.fields #[vl,vu,.none] } } σ H3 x v vl vu l u s3.heap.objs.size Q I4 r1 (Heap.IsSliceOf.new ..) pl pu q3) fun T id hT ht hg=>?_
 show wpAny (model X.prog X.w) X.A (subscriptTail e (.Slice lo hi none p2) v (.ref s3.heap.objs.size)) (EP X pins σ Q) X.xe { s3 with heap:=s3.heap.push { cls:=.type "slice", data:=.fields #[vl,vu,.none] } }
 exact tail_any (ops:=[.ref s3.heap.objs.size,v]) ht hT hg (by with_unfolding_all rfl)
noncomputable def Qx(xs:List V)(lo hi:Option Int):List V:=(xs.drop (HT.sIx xs.length 0 lo)).take (HT.sIx xs.length xs.length hi-HT.sIx xs.length 0 lo)
theorem JG(xs:List V)(lo hi:Option Int):(Qx xs lo hi).length≤xs.length:=by
 unfold Qx
 rw[List.length_take,List.length_drop]
 lia
end
noncomputable def ixN(n:Nat)(i:Int):Option Nat:=if 0≤i then (if i<n then some i.toNat else none) else if -(n:Int)≤i then some (i+n).toNat else none
noncomputable def atI{α:Type}(xs:List α)(i:Int):Option α:=(ixN xs.length i).bind fun j=>xs[j]?
theorem Gv{n:Nat}{i:Int}{j:Nat}(h:ixN n i=some j):seqIndex? i n=some j∧j<n∧-(n:Int)≤i∧i<n:=by
 unfold ixN at h
 by_cases h0:0≤i
 ·rw[if_pos h0] at h
  by_cases h1:i<n
  ·rw[if_pos h1] at h
   have e:i.toNat=j:=Option.some.inj h
   exact⟨by rw[seqIndex_of h0 h1,e],by lia,by lia,h1⟩
  ·rw[if_neg h1] at h;nomatch h
 ·rw[if_neg h0] at h
  by_cases h1 : -(n:Int)≤i
  ·rw[if_pos h1] at h
   have e:(i+n).toNat=j:=Option.some.inj h
   exact⟨by rw[seqIndex_neg (by lia) h1,e],by lia,h1,by lia⟩
  ·rw[if_neg h1] at h;nomatch h
theorem Uv{α:Type}{xs:List α}{i:Int}{v:α}(h:atI xs i=some v):∃j,seqIndex? i xs.length=some j∧xs[j]?=some v∧j<xs.length∧-(xs.length:Int)≤i∧i<xs.length:=by
 unfold atI at h
 cases e:ixN xs.length i with
 |none=>rw[e] at h;cases h
 |some j=>
  rw[e] at h
  refine X03 (Gv e) fun h1 h2 h3 h4=>?_
  exact⟨j,h1,h,h2,h3,h4⟩
theorem Uu{α:Type}{xs:List α}{j:Nat}{v:α}(h:xs[j]?=some v):atI xs (j:Int)=some v:=by
 have hj:j<xs.length:=(List.getElem?_eq_some_iff.mp h).1
 have e:ixN xs.length (j:Int)=some j:=by
  unfold ixN
  rw[if_pos (by lia),if_pos (by lia)];simp
 unfold atI;rw[e];exact h
noncomputable def vU(b:Expr):Prop:=∀o i,subscripted b false o i=operate [o,i] (getItem o i)
noncomputable def IxR(X:Cx)(r:R2):Prop:=
 ∀(value slice:Expr) (pins:List (Addr×Obj)) (s:Shared) (σ:St) (H:Hp) (x y:V) (v u:Value) (Q:VK),Inv X pins σ H s→RelV x v→RelV y u→r x y H Q →
  subscripted slice false v u=operate [v,u] (getItem v u)→wpAny (model X.prog X.w) X.A (subscriptTail value slice v u) (EP X pins σ Q) X.xe s
noncomputable def MtR(X:Cx)(id:String)(r:V→List V→Hp→VK→Prop):Prop:=
 ∀(pins:List (Addr×Obj)) (s:Shared) (σ:St) (H:Hp) (x:V) (xs:List V) (v:Value) (us:List Value) (Q:VK),Inv X pins σ H s→RelV x v→Vals xs us→r x xs H Q →
  wpAny (model X.prog X.w) X.A (call (.builtin id) (v::us)) (EP X pins σ Q) X.xe s
section
variable{X:Cx}{a b:Expr}{ta tb:TE}{pos:Pos}
theorem IxR.or{r r':R2}(h:IxR X r)(h':IxR X r'):IxR X (fun x y H Q=>r x y H Q∨r' x y H Q):=by
 intro value slice pins s σ H x y v u Q I rx ry q hs
 rcases q with q|q
 ·exact h value slice pins s σ H x y v u Q I rx ry q hs
 ·exact h' value slice pins s σ H x y v u Q I rx ry q hs
theorem YQ{r:R2}(hr:IxR X r)(ha:PE X a ta)(hb:PE X b tb)(hs:vU b):PE X (.Subscript a b pos) (tOp r ta tb):=by
 intro pins s σ H Q I h
 exact Subscript_ (zu8 ha hb I h fun v u s2 x y H2 I2 rx ry q=>hr a b pins s2 σ H2 x y v u Q I2 rx ry q (hs _ _))
noncomputable def rIxL(K:Frag):R2:=fun x y H Q=>∃p xs i v,x=.ref p∧y=.int i∧SqL K H p xs∧atI xs i=some v∧Q v H
noncomputable def rIxT(K:Frag):R2:=fun x y H Q=>∃p xs i v,x=.ref p∧y=.int i∧SqT K H p xs∧atI xs i=some v∧Q v H
noncomputable def rIxS:R2:=fun x y H Q=>∃z i c,x=.str z∧y=.int i∧z.length≤sizeLine∧atI z.cps.toList i=some c∧Q (.str ⟨#[c]⟩) H
theorem ix_list:IxR X (rIxL X.K):=by
 intro value slice pins s σ H x y v u Q I rx ry h hs
 obtain⟨p,xs,i,z,rfl,rfl,hq,he,q⟩:=h
 cases rx
 obtain⟨t,rfl⟩:=ry
 refine X12 (I.list hq) fun its r pl hz=>?_
 obtain⟨j,h1,h2,h3,h4,h5⟩:=Uv he
 refine X11 (r.get h2) fun w ew rw'=>?_
 have hl:=r.length
 have hn:=Zu
 have fin:EP X pins σ Q w s:=⟨z,H,I,rw',q⟩
 by_cases h0:0≤i
 ·have hj:i.toNat=j:=by
   rw[seqIndex_of h0 h5] at h1
   exact Option.some.inj h1
  exact item_listR pl.isList h0 (by lia) (by rw[hj];simpa using ew) fin hs
 ·have hj:(i+(its.toArray.size:Int)).toNat=j:=by
   rw[seqIndex_neg (by lia) h4] at h1
   rw[List.size_toArray,← hl]
   exact Option.some.inj h1
  exact subscriptTail_builtinR (x:=w) pl.isList.typeIs slot_list_getitem.lookup
   (wpAny_getItem_list_neg (Q:=fun r s'=>r=w∧EP X pins σ Q r s') pl.isList (by lia) (by rw[List.size_toArray] <;> lia) (by lia) (by rw[hj];simpa using ew) ⟨rfl,fin⟩) hs
theorem ix_tup:IxR X (rIxT X.K):=by
 intro value slice pins s σ H x y v u Q I rx ry h hs
 obtain⟨p,xs,i,z,rfl,rfl,hq,he,q⟩:=h
 cases rx
 obtain⟨t,rfl⟩:=ry
 refine X12 (I.tuple hq) fun its r pl hz=>?_
 obtain⟨j,h1,h2,h3,h4,h5⟩:=Uv he
 refine X11 (r.get h2) fun w ew rw'=>?_
 have hl:=r.length
 have hn:=Zu
 have fin:EP X pins σ Q w s:=⟨z,H,I,rw',q⟩
 exact subscriptTail_builtinR (x:=w) pl.typeIs slot_tuple_getitem.lookup
  (getItem_tuple (j:=j) (Q:=fun r s'=>r=w∧EP X pins σ Q r s') pl (by lia) (by lia) (by rw[List.size_toArray,← hl];exact h1) (by simpa using ew) ⟨rfl,fin⟩) hs
theorem zt2:IxR X rIxS:=by
 intro value slice pins s σ H x y v u Q I rx ry h hs
 obtain⟨z,i,c,rfl,rfl,hz,he,q⟩:=h
 obtain⟨t,rfl⟩:=rx
 obtain⟨t',rfl⟩:=ry
 obtain⟨j,h1,h2,h3,h4,h5⟩:=Uv he
 have hl:z.cps.toList.length=z.length:=by simp[Str.length]
 rw[hl] at h1 h4 h5
 have hn:=Zu
 exact tail_any (typeIs_str s z t) slot_str_getitem.lookup (getItem_str (c:=c) (by
  have e1:decide (i < -(2 ^ 63:Int))=false:=decide_eq_false (by lia)
  have e2:decide (i ≥ 2 ^ 63)=false:=decide_eq_false (by lia)
  rw[e1,e2,Bool.or_false]) (by rw[h1];simpa using h2) ⟨.str ⟨#[c]⟩,H,I.tok _,⟨_,rfl⟩,q⟩) hs
noncomputable def rIx(K:Frag):R2:=fun x y H Q=>rIxL K x y H Q∨rIxT K x y H Q∨rIxS x y H Q
theorem zt3:IxR X (rIx X.K):=ix_list.or (ix_tup.or zt2)
theorem Qf(its:List Value)(n j:Nat)(u:Value):Obj.mapSeq (·.setIfInBounds j u) { cls:=.type "list", data:=.seq its.toArray n } = { cls:=.type "list", data:=.seq (its.set j u).toArray n }:=by
 simp[Obj.mapSeq]
theorem Inv.lst{pins:List (Addr×Obj)}{σ:St}{H:Hp}{s:Shared}{p:Addr}{xs:List V}(I:Inv X pins σ H s)(h:H p=some (.lst xs)) :
  ∃(its:List Value) (n:Nat),Vals xs its∧s.heap.get? p=some { cls:=.type "list", data:=.seq its.toArray n }∧xs.length≤sizeLine:=by
 refine X01 (I.hok p _ h) fun z r24_=>?_;refine X21 r24_ fun its n r e=>?_
 exact Y22 its n r e z
theorem Inv.lstUpd{pins:List (Addr×Obj)}{σ:St}{H:Hp}{s:Shared}{p:Addr}{xs ys:List V}{its its':List Value}{n n':Nat}{f:Obj→Obj}(I:Inv X pins σ H s)(h:H p=some (.lst xs))
  (ho:s.heap.get? p=some { cls:=.type "list", data:=.seq its.toArray n }) (hf:f { cls:=.type "list", data:=.seq its.toArray n } = { cls:=.type "list", data:=.seq its'.toArray n' }) (r:Vals ys its') (hz:ys.length≤sizeLine) (t:Nat) :
  Inv X pins σ (upd H p (.lst ys)) { s with heap:=s.heap.update p f,toks:=t }:=by
 have e:(s.heap.update p f).get? p=some { cls:=.type "list", data:=.seq its'.toArray n' }:=by
  rw[Heap.get?_update_self f ho (by rw[hf] <;> rfl),hf]
 refine I.write (x:=p) (e:=p) (by rw[h];trivial) (.inl rfl) (fun b u hb q=>(Heap.get?_update_other _ _ (Ne.symm hb)).trans q) ⟨_,e⟩ ?_
 exact⟨hz,its',n',r,e⟩
noncomputable def rSetL:V→V→V→Hp→(Hp→Prop)→Prop:=fun o i v H Q=>∃p xs k j,o=.ref p∧i=.int k∧H p=some (.lst xs)∧ixN xs.length k=some j∧Q (upd H p (.lst (xs.set j v)))
theorem Tn:PSet X rSetL:=by
 intro pins s σ H o i v ov iv u Q I ro ri rv h
 obtain⟨p,xs,k,j,rfl,rfl,hp,hj,q⟩:=h
 cases ro
 obtain⟨t,rfl⟩:=ri
 refine X22 (I.lst hp) fun its n r ho hz=>?_
 refine X03 (Gv hj) fun h1 h2 h3 h4=>?_
 have hl:=r.length
 have hn:=Zu
 have I':Inv X pins σ (upd H p (.lst (xs.set j v))) { s with heap:=s.heap.update p (Obj.mapSeq (·.setIfInBounds j u)) }:=
  I.lstUpd hp ho (Qf its n j u) (r.set rv j) (by rw[List.length_set];exact hz) s.toks
 by_cases h0:0≤k
 ·have hk:k.toNat=j:=by
   rw[seqIndex_of h0 h4] at h1
   exact Option.some.inj h1
  exact PySem.W.ki_setAt ho h0 (by lia) (by rw[List.size_toArray,← hl];exact h4) (by rw[hk];exact Y11 _ I' q)
 ·have hk:(k+(its.toArray.size:Int)).toNat=j:=by
   rw[seqIndex_neg (by lia) h3] at h1
   rw[List.size_toArray,← hl]
   exact Option.some.inj h1
  exact PySem.W.ki_setBack ho (by lia) (by rw[List.size_toArray,← hl];exact h3) (by lia) (by rw[hk];exact Y11 _ I' q)
theorem VL(lo hi:Option Int)(n:Nat):(sliceBounds lo hi none n).1=((HT.sIx n 0 lo:Nat):Int)∧(sliceBounds lo hi none n).2.1=((HT.sIx n n hi:Nat):Int)∧(sliceBounds lo hi none n).2.2=1:=by
 refine⟨?_,?_,rfl⟩
 ·cases lo with
  |none=>simp[sliceBounds,HT.sIx]
  |some i=>
   simp only[sliceBounds,HT.sIx,Option.getD_none,show(1:Int) > 0 by decide,if_true]
   by_cases h:i<0
   ·simp only[h,if_true] <;> lia
   ·simp only[h,if_false] <;> lia
 ·cases hi with
  |none=>simp[sliceBounds,HT.sIx]
  |some i=>
   simp only[sliceBounds,HT.sIx,Option.getD_none,show(1:Int) > 0 by decide,if_true]
   by_cases h:i<0
   ·simp only[h,if_true] <;> lia
   ·simp only[h,if_false] <;> lia
theorem Wy(its:List Value)(lo hi:Option Int):slicePick its.toArray lo hi none=((its.drop (HT.sIx its.length 0 lo)).take (HT.sIx its.length its.length hi-HT.sIx its.length 0 lo)).toArray:=by
 refine X02 (VL lo hi its.toArray.size) fun h1 h2 h3=>?_
 unfold slicePick
 rw[h1,h2,h3]
 simp only[sliceRange_one,pick_run,List.size_toArray] <;> rfl
noncomputable def rSlL(K:Frag):V→Option Int→Option Int→Hp→VK→Prop:=fun x lo hi H Q=>∃a xs,x=.ref a∧SqL K H a xs∧∀p,H p=none→Q (.ref p) (upd H p (.lst (Qx xs lo hi)))
theorem QR:SlR X (rSlL X.K):=by
 intro pins s σ H x v vl vu lo hi sl Q I rx hs pl pu h
 obtain⟨a,xs,rfl,hx,q⟩:=h
 cases rx
 refine X12 (I.list hx) fun its r ht hz=>?_
 have hlen:=r.length
 refine Y22 ("list") _ slot_list_getitem.lookup ht.isList.typeIs ?_
 refine wpAny_getItem_list_slice ht.isList hs pl pu .none (by simp) ?_ (by rw[List.size_toArray] <;> lia)
 rw[Wy,← hlen]
 refine Y22 (.ref s.heap.objs.size) _ (I.laid (t':=s.toks) (o:=.lst (Qx xs lo hi)) (fun b ob q=>get?_push_of_some _ q) (Nat.le_refl _) ?_) rfl (q _ (I.hok.fresh (Nat.le_refl _)))
 exact⟨Nat.le_trans (JG xs lo hi) hz,_,0,(r.drop (HT.sIx xs.length 0 lo)).take (HT.sIx xs.length xs.length hi-HT.sIx xs.length 0 lo),Heap.get?_push_size _ rfl⟩
theorem call_len_seq:CallR X (.builtin "len") (fun xs H Q=>∃p ys,xs=[.ref p]∧(SqL X.K H p ys∨SqT X.K H p ys)∧Q (.int ys.length) H):=by
 intro pins s σ H xs us Q I r h
 obtain⟨p,ys,rfl,hq,q⟩:=h
 obtain⟨u,rfl,rx⟩:=vals1 r
 cases rx
 have hn:=Zu
 rcases hq with hq|hq
 ·refine X12 (I.list hq) fun its r' pl hz=>?_
  have hlen:=r'.length
  exact Calls.call_len_list pl.isList (by simp only[List.size_toArray] <;> lia) ⟨.int ys.length,H,I.tok _,⟨s.toks+1,by rw[List.size_toArray,hlen]⟩,q⟩
 ·refine X12 (I.tuple hq) fun its r' pl hz=>?_
  have hlen:=r'.length
  exact len_tuple pl (by simp only[List.size_toArray] <;> lia) ⟨.int ys.length,H,I.tok _,⟨s.toks+1,by rw[List.size_toArray,hlen]⟩,q⟩
theorem Us:CallR X (.builtin "len") (fun xs H Q=>∃z,xs=[.str z]∧z.length≤sizeLine∧Q (.int z.length) H):=by
 intro pins s σ H xs us Q I r h
 obtain⟨z,rfl,hz,q⟩:=h
 obtain⟨u,rfl,t,rfl⟩:=vals1 r
 have hn:=Zu
 exact len_str (by lia) ⟨.int z.length,H,I.tok _,⟨_,rfl⟩,q⟩
theorem CallR.or{f:Value}{r r':List V→Hp→VK→Prop}(h:CallR X f r)(h':CallR X f r'):CallR X f (fun xs H Q=>r xs H Q∨r' xs H Q):=by
 intro pins s σ H xs us Q I rs q
 rcases q with q|q
 ·exact h pins s σ H xs us Q I rs q
 ·exact h' pins s σ H xs us Q I rs q
theorem Yi:CallR X (.type "list") (fun xs H Q=>∃p ys,xs=[.ref p]∧(SqL X.K H p ys∨SqT X.K H p ys)∧∀l,H l=none→Q (.ref l) (upd H l (.lst ys))):=by
 intro pins s σ H xs us Q I r h
 obtain⟨p,ys,rfl,hq,q⟩:=h
 obtain⟨u,rfl,rx⟩:=vals1 r
 cases rx
 have fin:∀(its:List Value),Vals ys its→ys.length≤sizeLine→∀(h':Heap) (c':Nat),(∀b o',s.heap.get? b=some o'→h'.get? b=some o') →
   h'.get? s.heap.objs.size=some { cls:=.type "list", dict:=none,data:=.seq its.toArray c',slots:=#[] }→EP X pins σ Q (.ref s.heap.objs.size) { s with heap:=h' }:=fun its r' hz h' c' kp e=>
  ⟨.ref s.heap.objs.size,_,I.laid (t':=s.toks) kp (Nat.le_refl _) (show ObjOk X.prog X.w _ h' _ (.lst ys) from ⟨hz,its,c',r',e⟩),rfl,q _ (I.hok.fresh (Nat.le_refl _))⟩
 rcases hq with hq|hq
 ·refine X12 (I.list hq) fun its r' pl hz=>?_
  have hlen:=r'.length
  refine X12 pl.isList fun o ho hc r25_=>?_;refine X10 r25_ fun n hd=>?_
  exact call_list_seq p (.inl rfl) ho hc hd (fun h' c' kp e=>fin its r' hz h' c' kp e) (by simp only[List.size_toArray] <;> lia)
 ·refine X12 (I.tuple hq) fun its r' pl hz=>?_
  have hlen:=r'.length
  refine X12 pl fun o ho hc r26_=>?_;refine X10 r26_ fun n hd=>?_
  exact call_list_seq p (.inr rfl) ho hc hd (fun h' c' kp e=>fin its r' hz h' c' kp e) (by simp only[List.size_toArray] <;> lia)
noncomputable def tyV(K:Frag)(T:String)(x:V)(H:Hp):Prop:=match x with
 |.str _=>T = "str"
 |.int _=>T = "int"
 |.ref p=>(T = "list" ∧ ∃xs,SqL K H p xs)∨(T = "tuple" ∧ ∃o,K.lookup p=some o∧o.cls=.type "tuple" ∧ o.dict=none) ∨
   (T = "dict" ∧ ((∃kvs,H p=some (.dK kvs))∨∃kvs,H p=some (.dT kvs)))∨(T = "set" ∧ ∃S n,H p=some (.set S n))
 |_=>False
theorem M6{pins:List (Addr×Obj)}{σ:St}{H:Hp}{s:Shared}{T:String}{x:V}{v:Value}(I:Inv X pins σ H s)(r:RelV x v)(ty:tyV X.K T x H) :
  s.TypeIs v T∧∀a,v=.ref a→∃ob,s.heap.get? a=some ob∧ob.dict=none:=by
 cases x with
 |str z=>
  obtain⟨t,rfl⟩:=r
  cases (show T = "str" from ty)
  exact⟨typeIs_str s z t,fun _ e=>nomatch e⟩
 |int i=>
  obtain⟨t,rfl⟩:=r
  cases (show T = "int" from ty)
  exact⟨typeIs_int s i t,fun _ e=>nomatch e⟩
 |ref p=>
  cases r
  rcases ty with ⟨rfl,xs,hq⟩|⟨rfl,o,hk,hc,hd⟩|⟨rfl,hk⟩|⟨rfl,S,n,hk⟩
  ·refine X12 (I.list hq) fun its _ pl _=>?_
   refine⟨pl.isList.typeIs,fun a e=>?_⟩
   replace e:=PySem.Value.ref.inj e;subst e
   refine X23 pl fun o n e c hd _=>?_
   exact Y11 o e hd
  ·refine⟨⟨o,I.kIn p o hk,hc⟩,fun a e=>?_⟩
   replace e:=PySem.Value.ref.inj e;subst e
   exact Y11 o (I.kIn _ o hk) hd
  ·have z:∃o,s.heap.get? p=some o∧o.ExactDict:=by
    rcases hk with ⟨kvs,hk⟩|⟨kvs,hk⟩
    ·obtain⟨_,_,_,_,o,_,_,e,ex,_⟩:=I.hok p _ hk
     exact Y11 o e ex
    ·obtain⟨_,_,_,_,o,_,_,e,ex,_⟩:=I.hok p _ hk
     exact Y11 o e ex
   refine X11 z fun o e ex=>?_
   refine⟨⟨o,e,ex.1⟩,fun a e2=>?_⟩
   replace e2:=PySem.Value.ref.inj e2;subst e2
   exact Y11 o e ex.2.1
  ·obtain⟨o,_,_,_,e,ex,_⟩:=I.hok p _ hk
   refine⟨⟨o,e,ex.1⟩,fun a e2=>?_⟩
   replace e2:=PySem.Value.ref.inj e2;subst e2
   exact Y11 o e ex.2.1
 |_=>exact False.elim ty
noncomputable def tBM0(K:Frag)(T:String)(r:V→List V→Hp→VK→Prop)(to:TE):TE:=fun σ H Q=>to σ H fun x H1=>tyV K T x H1∧r x [] H1 Q
noncomputable def tBM(K:Frag)(T:String)(r:V→List V→Hp→VK→Prop)(to:TE)(t:TA):TE:=fun σ H Q=>to σ H fun x H1=>tyV K T x H1∧t σ H1 fun xs H2=>r x xs H2 Q
variable{o e:Expr}{es:List Expr}{to:TE}{t:TA}{name:Str}{apos cpos:Pos}{T id:String}{r:V→List V→Hp→VK→Prop}
theorem TM(pa:PlainAttrs T)(slot:Slot T name id)(hty:typeOf (.builtin id)=pure (.type "method_descriptor"))(hm:MtR X id r)(ho:PE X o to)
  (hbase:attributeBase o name X.env (eval o X.env)=eval o X.env:=by rfl) (hline:(apos.endLine==cpos.line)=true:=by rfl):PE X (.Call (.Attribute o name apos) [] [] cpos) (tBM0 X.K T r to):=by
 intro pins s σ H Q I h
 refine wpAny_Call_method0_late hbase hline (thn (ho pins s σ H _ I h) fun v s1 z_=>?_)
 refine X23 z_ fun x H1 I1 r1 ty q1=>?_
 obtain⟨h1,h2⟩:=M6 I1 r1 ty
 exact⟨T,id,pa,slot,hty,h1,h2,Calls.callWith_builtin rfl (PySem.evalArgs_none (hm pins s1 σ H1 x [] v [] Q I1 r1 .nil q1))⟩
theorem Q5(pa:PlainAttrs T)(slot:Slot T name id)(hty:typeOf (.builtin id)=pure (.type "method_descriptor"))(hm:MtR X id r)(ho:PE X o to)(ha:PA X (e::es) t)
  (hbase:attributeBase o name X.env (eval o X.env)=eval o X.env:=by rfl)
  (hfew:((backTo cpos (starEach (e::es) X.env)).all (fun x=>!x.1)&&(backToKw cpos (keywordEach [] X.env)).all (fun x=>x.1.isSome)
   && decide ((e::es).length+([]:List Keyword).length+(if ([]:List Keyword).isEmpty then 0 else 1)<30))=true:=by rfl)
  (hline:(apos.endLine==cpos.line)=true:=by rfl) (hs:starEach (e::es) X.env=(false,eval e X.env)::starEach es X.env:=by rfl) (hplain:(backTo cpos (starEach es X.env)).any (·.1)=false:=by rfl) :
  PE X (.Call (.Attribute o name apos) (e::es) [] cpos) (tBM X.K T r to t):=by
 intro pins s σ H Q I h
 refine wpAny_Call_method_late hbase hfew hline rfl (thn (ho pins s σ H _ I h) fun v s1 z_=>?_)
 refine X23 z_ fun x H1 I1 r1 ty q1=>?_
 obtain⟨h1,h2⟩:=M6 I1 r1 ty
 refine⟨T,id,pa,slot,hty,h1,h2,?_⟩
 have hA:=ha cpos pins s1 σ H1 _ I1 q1
 rw[hs] at hA ⊢
 refine Calls.callWith_builtin (by show(false||(backTo cpos (starEach es X.env)).any (·.1))=false;rw[hplain] <;> rfl) (Calls.evalArgs_plain ?_)
 exact thn hA fun us s2 z_=>by refine X22 z_ fun vs H2 I2 r2 q2=>?_;exact hm pins s2 σ H2 x vs v us Q I2 r1 r2 q2
end
noncomputable def MtM(X:Cx)(id:String)(r:V→List V→Hp→VK→Prop):Prop:=
 ∀(pins:List (Addr×Obj)) (s:Shared) (σ:St) (H:Hp) (x:V) (xs:List V) (v:Value) (us:List Value) (Q:VK),Inv X pins σ H s→RelV x v→Vals xs us→r x xs H Q →
  wpAny (model X.prog X.w) X.A (call (.builtin id) (v::us)) (EP X pins σ Q) X.xe s
theorem Vals.one{x:V}{us:List Value}(h:Vals [x] us):∃u,us=[u]∧RelV x u:=by
 cases h with
 |cons r h=>cases h;exact Y11 _ rfl r
theorem Vals.zero:∀{us:List Value},Vals [] us→us=[]
 |_,.nil=>rfl
theorem Vals.dropLast{xs:List V}{us:List Value}(h:Vals xs us):Vals xs.dropLast us.dropLast:=by
 induction h with
 |nil=>exact .nil
 |cons r t ih=>
  cases t with
  |nil=>exact .nil
  |cons q t'=>exact .cons r ih
theorem Vals.rep{xs:List V}{us:List Value}(h:Vals xs us):∀k:Nat,Vals (List.replicate k xs).flatten (List.replicate k us).flatten:=by
 intro l_
 induction l_ with
 |zero=>
  exact .nil
 |succ k ih_=>
  rw[List.replicate_succ,List.replicate_succ,List.flatten_cons,List.flatten_cons]
  exact Vals.append h (ih_)
theorem Qq{α:Type}(l:List α):l.eraseIdx (l.length-1)=l.dropLast:=by
 induction l with
 |nil=>rfl
 |cons a r ih=>
  cases r with
  |nil=>rfl
  |cons b r=>
   have e:(a::b::r).length-1=((b::r).length-1)+1:=by
    have h1:(a::b::r).length=r.length+2:=rfl
    have h2:(b::r).length=r.length+1:=rfl
    lia
   rw[e,List.eraseIdx_cons_succ,ih]
   all_goals rfl
theorem foldl_rep(its:List Value):∀(k:Nat) (acc:List Value),
  List.foldl (fun x1 x2=>x1++x2) acc.toArray (List.replicate k its.toArray)=(acc++(List.replicate k its).flatten).toArray:=by
 intro l_
 induction l_ with
 |zero=>
  rintro acc
  simp
 |succ k ih_=>
  rintro acc
  have e:acc.toArray++its.toArray=(acc++its).toArray:=by simp
  have e2:(acc++its)++(List.replicate k its).flatten=acc++(List.replicate (k+1) its).flatten:=by
   rw[List.replicate_succ,List.flatten_cons,List.append_assoc]
  rw[← e2,← ih_ (acc++its),← e,List.replicate_succ,List.foldl_cons]
section
variable{X:Cx}{pins:List (Addr×Obj)}{σ:St}{H:Hp}{s:Shared}{l b:Addr}{xs ys zs:List V}
theorem Inv.lset{its its':List Value}{n:Nat}{f:Array Value→Array Value}{t':Nat}(I:Inv X pins σ H s)(hH:H l=some (.lst xs))
  (e:s.heap.get? l=some { cls:=.type "list", data:=.seq its.toArray n }) (hf:f its.toArray=its'.toArray) (hv:Vals ys its') (hz:ys.length≤sizeLine) :
  Inv X pins σ (upd H l (.lst ys)) { s with heap:=s.heap.update l (Obj.mapSeq f),toks:=t' }:=by
 have q:=PySem.IsL.update e f
 rw[hf] at q
 refine I.write (x:=l) (e:=l) (by rw[hH];exact trivial) (.inl rfl) (fun b' u hb hu=>(Heap.get?_update_other s.heap (Obj.mapSeq f) (Ne.symm hb)).trans hu) ⟨_,q⟩ ?_
 exact⟨hz,its',_,hv,q⟩
theorem Inv.lnew{its:List Value}{t':Nat}(I:Inv X pins σ H s)(hv:Vals ys its)(hz:ys.length≤sizeLine) :
  Inv X pins σ (upd H s.heap.objs.size (.lst ys)) { s with heap:=s.heap.push { cls:=.type "list", data:=.seq its.toArray },toks:=t' }:=
 I.laid (fun _ _ q=>get?_push_of_some _ q) (Nat.le_refl _) ⟨hz,its,0,hv,Heap.get?_push_size _ rfl⟩
theorem Inv.fresh(I:Inv X pins σ H s):H s.heap.objs.size=none:=I.hok.fresh (Nat.le_refl _)
theorem Inv.lstM(I:Inv X pins σ H s)(hH:H l=some (.lst xs)):xs.length≤sizeLine∧∃(its:List Value) (n:Nat),Vals xs its∧xs.length=its.length∧s.heap.get? l=some { cls:=.type "list", data:=.seq its.toArray n }:=by
 refine X01 (I.hok l _ hH) fun z r31_=>?_;refine X21 r31_ fun its n r e=>?_
 exact⟨z,its,n,r,r.length,e⟩
theorem Li{n:Nat}(h:n≤sizeLine):Builtin.List.listTooLong n=false:=by
 unfold Builtin.List.listTooLong
 exact decide_eq_false (by lia)
end
section
variable{X:Cx}
noncomputable def zd3:V→List V→Hp→VK→Prop:=fun x vs H Q=>∃l xs y,x=.ref l∧vs=[y]∧H l=some (.lst xs)∧xs.length<sizeLine∧Q .non (upd H l (.lst (xs++[y])))
theorem uL:MtM X "list.append" zd3:=by
 intro pins s σ H x vs v us Q I rx rv h
 obtain⟨l,xs,y,rfl,rfl,hH,hz,q⟩:=h
 cases rx
 obtain⟨u,rfl,ru⟩:=rv.one
 refine X01 (I.lstM hH) fun z r32_=>?_;refine X22 r32_ fun its n r hl e=>?_
 refine call_meets F.slot_list_append ⟨_,e,rfl⟩ F.entry_list_append (F.args_list_append_2 _ _) (PySem.list_append l its.toArray n u (by rw[List.size_toArray];lia)) ⟨e,?_⟩
 refine Y22 .non _ (I.lset (its':=its++[u]) hH e (by simp) (r.append (.cons ru .nil)) ?_) rfl q
 rw[List.length_append,List.length_singleton]
 lia
noncomputable def rPop:V→List V→Hp→VK→Prop:=fun x vs H Q=>∃l xs y,x=.ref l∧vs=[]∧H l=some (.lst xs)∧xs[xs.length-1]?=some y∧Q y (upd H l (.lst xs.dropLast))
theorem zr9:MtM X "list.pop" rPop:=by
 intro pins s σ H x vs v us Q I rx rv h
 obtain⟨l,xs,y,rfl,rfl,hH,hy,q⟩:=h
 cases rx
 have hus:=rv.zero
 subst hus
 refine X01 (I.lstM hH) fun z r33_=>?_;refine X22 r33_ fun its n r hl e=>?_
 refine X11 (r.get hy) fun u hu ru=>?_
 have hy':its.toArray[its.toArray.size-1]?=some u:=by
  show its.toArray[its.length-1]?=some u
  rw[← Array.getElem?_toList,← hl]
  exact hu
 refine call_meets F.slot_list_pop ⟨_,e,rfl⟩ F.entry_list_pop (F.args_list_pop_1 _) (MeetsSeq.list_pop_last l its.toArray n u hy' (by rw[List.size_toArray];lia)) ⟨e,?_⟩
 refine Y22 y _ (I.lset (its':=its.dropLast) hH e ?_ r.dropLast ?_) ru q
 ·show its.toArray.eraseIdxIfInBounds (its.toArray.size-1)=its.dropLast.toArray
  rw[List.size_toArray,List.eraseIdxIfInBounds_toArray,Qq]
 ·rw[List.length_dropLast]
  lia
noncomputable def rCat:R2:=fun x y H Q=>∃l b xs zs,x=.ref l∧y=.ref b∧H l=some (.lst xs)∧H b=some (.lst zs)∧xs.length+zs.length≤sizeLine∧∀p,H p=none→Q (.ref p) (upd H p (.lst (xs++zs)))
theorem zq5:OpR X (binaryOp .Add) rCat:=by
 intro pins s σ H x y v u Q I rx ry h
 obtain⟨l,b,xs,zs,rfl,rfl,hH,hB,hz,q⟩:=h
 cases rx
 cases ry
 refine X01 (I.lstM hH) fun z r34_=>?_;refine X22 r34_ fun its n r hl e=>?_
 refine X01 (I.lstM hB) fun z2 r35_=>?_;refine X22 r35_ fun its2 n2 r2 hl2 e2=>?_
 refine PySem.P.add_list e e2 ?_ (by rw[List.size_toArray,List.size_toArray];lia)
 have ea:its.toArray++its2.toArray=(its++its2).toArray:=by simp
 rw[ea]
 exact Y22 (.ref _) _ (I.lnew (t':=s.toks) (r.append r2) (by rw[List.length_append];lia)) rfl (q _ I.fresh)
noncomputable def rRep:R2:=fun x y H Q=>∃l k xs,x=.ref l∧y=.int k∧H l=some (.lst xs)∧-(2 ^ 63)≤k∧k<2 ^ 63∧xs.length*k.toNat≤sizeLine ∧
 ∀p,H p=none→Q (.ref p) (upd H p (.lst (List.replicate k.toNat xs).flatten))
theorem zh5{α:Type}(xs:List α)(k:Nat):(List.replicate k xs).flatten.length=k*xs.length:=by
 induction k with
 |zero=>simp
 |succ k ih=>rw[List.replicate_succ,List.flatten_cons,List.length_append,ih,Nat.succ_mul,Nat.add_comm]
theorem zq2:OpR X (binaryOp .Mult) rRep:=by
 intro pins s σ H x y v u Q I rx ry h
 obtain⟨l,k,xs,rfl,rfl,hH,h1,h2,hz,q⟩:=h
 cases rx
 obtain⟨t,rfl⟩:=ry
 refine X01 (I.lstM hH) fun z r36_=>?_;refine X22 r36_ fun its n r hl e=>?_
 have hlen:its.toArray.size*k.toNat≤sizeLine:=by rw[List.size_toArray,← hl];exact hz
 have hcap:¬ its.toArray.size*k.toNat > (2 ^ 63-1) / 8:=by
  have:(sizeLine:Nat)≤(2 ^ 63-1) / 8:=by decide
  lia
 have hfit:¬ (!Builtin.List.listFitsIndex k)=true:=by
  rw[fitsIndex_both h1 h2]
  exact Bool.false_ne_true
 have hlong:¬ Builtin.List.listTooLong (its.toArray.size*k.toNat)=true:=by
  rw[Li hlen]
  exact Bool.false_ne_true
 have hnew:List.foldl (fun x1 x2=>x1++x2) #[] (List.replicate (if its.toArray.isEmpty=true then 0 else k.toNat) its.toArray)=(List.replicate k.toNat its).flatten.toArray:=by
  have f0:∀m:Nat,List.foldl (fun x1 x2=>x1++x2) #[] (List.replicate m its.toArray)=(List.replicate m its).flatten.toArray:=fun m=>by
   have:=foldl_rep its m []
   rw[List.nil_append] at this
   exact this
  rw[f0]
  cases its with
  |nil=>simp
  |cons a r'=>rw[if_neg (by simp)]
 refine wpAny_binaryOp_repeat_ref (T := "list") (U := "int") (by decide) ⟨_,e,rfl⟩ (fun s'=>typeIs_int s' k t) noFill_list_mul F.fills_int_mul F.slot_int_rmul repeat_list F.slot_int_index.lookup
  (call_meets F.slot_int_rmul (typeIs_int s k t) F.entry_int_rmul (F.args_int_rmul_2 _ _) (int___rmul___int_list k t l its.toArray n)
   ⟨e,rfl,⟨_,e,rfl⟩,call_meets F.slot_list_mul ⟨_,e,rfl⟩ F.entry_list_mul (F.args_list_mul_2 _ _) (AutoListH.list___mul___list_int_3 l its.toArray n k t hfit hcap hlong) ⟨e,?_⟩⟩)
 rw[hnew]
 exact Y22 (.ref _) _ (I.lnew (t':=s.toks) (r.rep k.toNat) (by rw[zh5,Nat.mul_comm];exact hz)) rfl (q _ I.fresh)
end
section
variable{prog:Program}{w:World}{A:Around}{E:Value→Shared→Prop}{s:Shared}
end
section
variable{X:Cx}
end
end L2
namespace Att
open PySem PySem.W PySem.Calls PyProof.Rows
theorem Xe{P:Params}{h:Heap}:∀(ns:List Int) (vs:List Value),WellAll P h vs (ns.map WData.int)→IntsAre vs ns:=by
 intro ns
 induction ns with
 |nil=>
  intro vs w
  rw[List.map_nil] at w
  cases w
  exact .nil
 |cons n ns ih=>
  intro vs w
  rw[List.map_cons] at w
  cases w with
  |cons a b=>
   cases a
   exact .cons _ _ (ih _ b)
theorem G7{l:OpenLaw}{n:Nat}(hn:l.most=some n){P:Params}{h:Heap}{args:List WData}{vals:List Value}
  (hpre:l.row.toRowW.claim.pre args=true) (hwl:WellAll P h vals args) :
  ∃a vs ns,vals=[Value.ref a]∧args=[WData.list (ns.map WData.int)]∧h.get? a=some { cls:=.type "list", data:=.seq vs.toArray }∧IntsAre vs ns∧ns.length≤n:=by
 have hsh:WShape.hasAll [] args [.list .int]=true:=(pre_splitW hpre).1
 have hc:l.pre.holds [] { args:=args }=true:=(pre_splitW hpre).2
 obtain⟨d,r,rfl,h1,h2⟩:=hasAllW_cons hsh
 obtain rfl:=hasAllW_nil h2
 obtain⟨xs,rfl,h3⟩:=hasW_list h1
 obtain⟨ns,rfl⟩:=items_int h3
 have hlen:ns.length≤n:=by
  unfold OpenLaw.pre at hc
  have h4:(WTm.not (.lt (.lit (.int (n:Int))) (.len (.arg 0)))).holds [] { args:=[.list (ns.map .int)] }=true:=by
   have h4:=(holds_andW hc).1
   rw[hn] at h4
   exact h4
  have h5:=condW_of h4 (w_not (w_lt w_lit (w_len_list (w_arg rfl))))
  rw[List.length_map] at h5
  refine Nat.le_of_not_lt fun q=>?_
  have q':(n:Int)<((ns.length:Nat):Int):=by lia
  first
   | (rw[decide_eq_true q'] at h5;exact absurd h5 (by decide))
   | (simp at h5;lia)
 cases hwl with
 |cons w1 w2=>
  cases w2
  cases w1 with
  |list ho hall=>exact⟨_,_,ns,rfl,rfl,ho,Xe ns _ hall,hlen⟩
theorem Mc(l:OpenLaw)(args:List WData):l.row.toRowW.claim.post args (.bool true) args=true:=
 postW_of (r:=l.row.toRowW) (X:=(true==true))
  (show WShape.has [] (.bool true) .bool=true by first|rfl|decide|simp[WShape.has,WShape.arms,WShape.armsAll])
  (show(WTm.eq .res (.lit (.bool true))).value [] { args:=args,res:=some (.bool true),after:=args }=some (.bool (true==true)) from w_eq_bool (w_res rfl) w_lit) rfl
theorem attach_call{l:OpenLaw}{n:Nat}{q:Program}{loose:List Str}{XP:(Str→Option Value)→Heap→Prop}{YP:World→Heap→Prop}{d:DefRec}
  (hn:l.most=some n) (hdf:d.params.defaults=[])
  (call:∀(w:World) (s₀ s₁:Shared) (mg mb:Str→Option Value) (fa:Addr) (o:Obj) (pm cd doc:Value) (a:Addr) (vs:List Value) (ns:List Int),
   Ground q loose [] XP w s₀ mg mb s₁.heap→YP w s₁.heap →
   s₁.heap.get? fa=some o→o.data=.func (docDef d.name d.params d.body d.scope pm cd doc)→s₁.heap.CodeRec cd d.name→mg d.name=some (.ref fa) →
   s₁.heap.get? a=some { cls:=.type "list", data:=.seq vs.toArray }→IntsAre vs ns→ns.length≤n→s₁.gens = #[] →
   codeAny (model l.prog w) callerA (.call (.ref fa) ⟨[.ref a],[]⟩) (fun r s'=>r=.ok (.ret (.bool true))∧OldK s₁.heap s'.heap∧s'.os=s₁.os∧AllBare s'.gens) s₁) :
  WalkO q loose XP YP l.row.toRowW d [] (fun f vs=>PySem.call f vs):=by
 intro w s₀ s₁ mg mb G Y fa o pm cd doc dV kV ho hd hcd hD hmg hg args vals as hpre hlay hrd hwl hlo
 obtain rfl:dV=.none:=Dflts.none hD hdf
 obtain rfl:kV=.none:=Dflts.noKw hD
 obtain⟨a,vs,ns,rfl,rfl,hobj,hints,hlen⟩:=G7 hn hpre hwl
 refine enter_call (codeAny_mono (call w s₀ s₁ mg mb fa o pm cd doc a vs ns G Y ho (fd_plain hd) hcd hmg hobj hints hlen hg) fun r s' hq=>?_)
 obtain⟨rfl,h2,h3,h4⟩:=hq
 exact⟨.inl ⟨.bool true,.bool true,[],rfl,fun _=>rfl,.bool true,Mc l _,fun _=>⟨List.Pairwise.nil,fun _ hm=>(nomatch hm)⟩⟩,h2,h3,h4⟩
section
variable{prog:Program}{w:World}{A:Around}{E:Value→Shared→Prop}{s:Shared}{K:Frag}
end
end Att
namespace L2
open PySem PySem.Spec PyProof.Rows
theorem vals_ints:∀{vs:List Value} {ns:List Int},IntsAre vs ns→Vals (ns.map V.int) vs
 |_,_,.nil=>.nil
 |_,_,.cons n t h=>.cons ⟨t,rfl⟩ (vals_ints h)
noncomputable def vR(s:Stmt)(j:Nat):Stmt:=match s with
 |.ClassDef _ _ _ body _ _ _ _ _ _ _=>body.getD j (.Pass ⟨0,0,0,0⟩)
 |_=>.Pass ⟨0,0,0,0⟩
noncomputable def zG(s:Stmt):Arguments:=match s with
 |.FunctionDef _ a _ _ _ _ _ _ _ _=>a
 |_=>{ posonlyargs:=[],args:=[],vararg:=none,kwonlyargs:=[],kw_defaults:=[],kwarg:=none,defaults:=[] }
noncomputable def zx(s:Stmt):List Stmt:=match s with
 |.FunctionDef _ _ b _ _ _ _ _ _ _=>b
 |_=>[]
noncomputable def zh(s:Stmt):Scope:=match s with
 |.FunctionDef _ _ _ _ _ _ sc _ _ _=>sc
 |_=>{ kind:=.function,names:=[],isGenerator:=false,isCoroutine:=false }
noncomputable abbrev CX0:CXT:=fun _ _ _ _ _ _=>False
noncomputable abbrev E0:XK:=fun _ _ _=>False
theorem j9{X:Cx}:ZD CX0 X E0:=fun _ _ _ _ _ _ _ h=>h.elim
structure Fun(K:Frag)(x qual:Str)(st:Stmt)(f:Addr)(fd:FuncData):Prop where
 ex:∃(oc:Value) (od:Option Addr) (kV doc pm:Value) (an:Option Addr) (cdv ct:Value) (osl:Array (Option Value)),
  fd=fnOf x qual (zG st) (zx st) (zh st) .none kV doc pm an cdv ct∧K.lookup f=some ⟨oc,od,.func fd,osl⟩∧codeIn K cdv qual=true
 kp:keepIn K (.ref f)=true
section
variable{P:Program}{w:World}{K:Frag}{mg:Str→Option Value}{base:Heap}
theorem Fun.ok{x qual:Str}{st:Stmt}{f:Addr}{fd:FuncData}{N ps:List Str}{k:Nat}{sp:Sp}(F:Fun K x qual st f fd)(S:zD N ps (zh st))(len:∀vs H Q E,sp vs H Q E→vs.length=ps.length)
  (hbody:∀(cdv:Value) (A:Around) (outer:List Env) (s:Shared) (H:Hp) (vs:List V) (Q:VK) (E:XK),Room k (A.deeper (envOfC qual (zh st) s.heap.objs.size f cdv))→sp vs H Q E →
   ∃t,PSs (jJ CX0 P w K mg base N qual (zh st) f cdv A outer s H E).nox (zx st) t∧t { nx:=fun _ H'=>Q .non H',rt:=Q } (start N vs) H):FnOk P w K mg base CX0 (k+1) f fd ps sp:=by
 obtain⟨oc,od,kV,doc,pm,an,cdv,ct,osl,rfl,lk,hcd⟩:=F.ex
 refine zm6 lk hcd S len fun A outer s H vs Q E hr hsp=>?_
 refine X11 (hbody cdv A outer s H vs Q E hr hsp) fun t h q=>?_
 exact Y11 t h.nox q
theorem Fun.binds{x qual:Str}{st:Stmt}{f:Addr}{fd:FuncData}{ps:List Str}(F:Fun K x qual st f fd)
  (h:∀(kV doc pm:Value) (an:Option Addr) (cdv ct:Value) (us:List Value),us.length=ps.length→bindArgs (fnOf x qual (zG st) (zx st) (zh st) .none kV doc pm an cdv ct) ⟨us,[]⟩=pure (ps.zip us)):Binds K fd ps []:=by
 obtain⟨oc,od,kV,doc,pm,an,cdv,ct,osl,rfl,lk,hcd⟩:=F.ex
 exact .all (h kV doc pm an cdv ct)
theorem ym{x qual:Str}{st:Stmt}{f:Addr}{oc:Value}{od an:Option Addr}{osl:Array (Option Value)}{kV doc pm cdv ct:Value}(l:K.lookup f=some ⟨oc,od,.func (fnOf x qual (zG st) (zx st) (zh st) .none kV doc pm an cdv ct),osl⟩)
  (c:codeIn K cdv qual=true) (k:keepIn K (.ref f)=true):Fun K x qual st f (fnOf x qual (zG st) (zx st) (zh st) .none kV doc pm an cdv ct):=⟨⟨oc,od,kV,doc,pm,an,cdv,ct,osl,rfl,l,c⟩,k⟩
end
theorem wW{n:Nat}(h:n≤1000):n<sizeLine:=Nat.lt_of_le_of_lt h (by decide)
section
variable{X:Cx}
theorem pv(i:Nat){x:Str}{pos:Pos}(hN:X.N[i]?=some x:=by rfl)(hv:Vis X.env.scope x:=by first|exact Or.inl rfl|exact Or.inr (Or.inl rfl) | exact Or.inr (Or.inr rfl))(hd:(x==("__debug__" : Str))=false:=by decide)
  (hcd:(x==("__classdict__" : Str))=false:=by decide):PE X (.Name x pos) (xf i):=zo9 hN hv hd hcd
end
noncomputable def Same(H H':Hp):Prop:=∀b o,H b=some o→H' b=some o
theorem Same.refl(H:Hp):Same H H:=fun _ _ h=>h
theorem Same.trans{H H1 H2:Hp}(a:Same H H1)(b:Same H1 H2):Same H H2:=fun c o h=>b c o (a c o h)
theorem Same.seq{K:Frag}{H H':Hp}{a:Addr}{xs:List V}(e:Same H H')(h:SqL K H a xs):SqL K H' a xs:=by
 rcases h with (h|⟨o,h⟩) | h
 ·exact .inl (.inl (e _ _ h))
 ·exact .inl (.inr ⟨o,e _ _ h⟩)
 ·exact .inr h
end L2
namespace FD
open PySem PySem.Spec PyProof.Rows L2
noncomputable abbrev St:=L2.St
inductive D where
 | non|bl (b:Bool) | int (i:Int) | str (x:Str) | lst (xs:List D) | tup (xs:List D) | scr (ns:List Int) | raw (v:V) | exc (c:Str) | dct (ks:List Key) (ds:List D)
inductive Rs (α:Type) where
 | ok (a:α) | ex (c:Str) | no
noncomputable def Rs.bind{α β:Type}(r:Rs α)(k:α→Rs β):Rs β:=match r with
 |.ok a=>k a
 |.ex c=>.ex c
 |.no=>.no
@[simp] theorem Rs.bind_ok{α β:Type}(a:α)(k:α→Rs β):(Rs.ok a).bind k=k a:=rfl
noncomputable def excIs(K:Frag)(a:Addr)(c:Str):Heap→Prop:=fun h=>∃oe cls vs,h.get? a=some oe∧oe.cls=cls∧oe.dict=none∧oe.data=.fields vs∧nsIn K mainGlobals c=some (some cls)
section
variable(K:Frag)
mutual
noncomputable def Rep(F:Hp):D→V→Prop
 |.non,v=>v=.non
 |.bl b,v=>v=.bl b
 |.int i,v=>v=.int i
 |.str x,v=>v=.str x
 |.lst ds,v=>∃a vs,v=.ref a∧F a=some (.lst vs)∧Reps F ds vs
 |.scr ns,v=>∃a,v=.ref a∧SqL K F a (ns.map V.int)
 |.tup ds,v=>∃a vs,v=.ref a∧SqT K F a vs∧Reps F ds vs
 |.raw u,v=>v=u
 |.exc c,v=>∃a,v=.ref a∧F a=some (.ext (excIs K a c))
 |.dct ks ds,v=>∃a kvs o,v=.ref a∧F a=some (.frz o (.dK kvs))∧kvs.map (·.1)=ks∧Reps F ds (kvs.map (·.2))
noncomputable def Reps(F:Hp):List D→List V→Prop
 |[],vs=>vs=[]
 |d::ds,vs=>∃v r,vs=v::r∧Rep F d v∧Reps F ds r
end
end
theorem Same.refl(H:Hp):Same H H:=fun _ _ h=>h
theorem Same.seqT{K:Frag}{H H':Hp}{a:Addr}{xs:List V}(e:Same H H')(h:SqT K H a xs):SqT K H' a xs:=by
 rcases h with (h|⟨o,h⟩) | h
 ·exact .inl (.inl (e _ _ h))
 ·exact .inl (.inr ⟨o,e _ _ h⟩)
 ·exact .inr h
section
variable{K:Frag}{F F':Hp}
mutual
theorem Rep.mono(h:Same F F'):∀{d:D} {v:V},Rep K F d v→Rep K F' d v
 |.non,_,r=>by simpa only[Rep] using r
 |.bl _,_,r=>by simpa only[Rep] using r
 |.int _,_,r=>by simpa only[Rep] using r
 |.str _,_,r=>by simpa only[Rep] using r
 |.raw _,_,r=>by simpa only[Rep] using r
 |.exc c,v,r=>by
  simp only[Rep] at r ⊢
  refine X11 r fun a e q=>?_
  exact Y11 a e (h _ _ q)
 |.dct ks ds,v,r=>by
  simp only[Rep] at r ⊢
  obtain⟨a,kvs,o,e,q,k,t⟩:=r
  exact⟨a,kvs,o,e,h _ _ q,k,Reps.mono h t⟩
 |.lst ds,v,r=>by
  simp only[Rep] at r ⊢
  refine X22 r fun a vs e q t=>?_
  exact Y22 a vs e (h _ _ q) (Reps.mono h t)
 |.scr ns,v,r=>by
  simp only[Rep] at r ⊢
  refine X11 r fun a e q=>?_
  exact Y11 a e (h.seq q)
 |.tup ds,v,r=>by
  simp only[Rep] at r ⊢
  refine X22 r fun a vs e q t=>?_
  exact Y22 a vs e (Same.seqT h q) (Reps.mono h t)
theorem Reps.mono(h:Same F F'):∀{ds:List D} {vs:List V},Reps K F ds vs→Reps K F' ds vs
 |[],_,r=>by simpa only[Reps] using r
 |d::ds,vs,r=>by
  simp only[Reps] at r ⊢
  refine X22 r fun v r' e q t=>?_
  exact Y22 v r' e (Rep.mono h q) (Reps.mono h t)
end
theorem Reps.length:∀{ds:List D} {vs:List V},Reps K F ds vs→ds.length=vs.length
 |[],_,r=>by simp only[Reps] at r;subst r;rfl
 |d::ds,_,r=>by
  simp only[Reps] at r
  obtain⟨v,r',rfl,_,t⟩:=r
  simp[Reps.length t]
theorem Reps.get:∀{ds:List D} {vs:List V} {i:Nat} {d:D},Reps K F ds vs→ds[i]?=some d→∃v,vs[i]?=some v∧Rep K F d v
 |[],_,_,_,_,e=>by simp at e
 |d::ds,_,0,_,r,e=>by
  simp only[Reps] at r
  obtain⟨v,r',rfl,q,t⟩:=r
  simp at e;subst e
  exact Y11 v rfl q
 |d::ds,_,i+1,_,r,e=>by
  simp only[Reps] at r
  obtain⟨v,r',rfl,q,t⟩:=r
  refine X11 (Reps.get (i:=i) t (by simpa using e)) fun w h1 h2=>?_
  exact Y11 w (by simpa using h1) h2
theorem Reps.nil:Reps K F [] []:=by simp only[Reps]
theorem Reps.cons{d:D}{v:V}{ds:List D}{vs:List V}(h:Rep K F d v)(t:Reps K F ds vs):Reps K F (d::ds) (v::vs):=by
 simp only[Reps];exact Y22 v vs rfl h t
theorem Reps.append:∀{ds es:List D} {vs ws:List V},Reps K F ds vs→Reps K F es ws→Reps K F (ds++es) (vs++ws)
 |[],_,_,_,r,t=>by simp only[Reps] at r;subst r;exact t
 |d::ds,es,_,ws,r,t=>by
  simp only[Reps] at r
  obtain⟨v,r',rfl,q,u⟩:=r
  exact Reps.cons q (Reps.append u t)
theorem Reps.take:∀{ds:List D} {vs:List V} (n:Nat),Reps K F ds vs→Reps K F (ds.take n) (vs.take n)
 |_,_,0,_=>by simp only[List.take_zero];exact Reps.nil
 |[],_,n+1,r=>by simp only[Reps] at r;subst r;simp only[List.take_nil];exact Reps.nil
 |d::ds,_,n+1,r=>by
  simp only[Reps] at r
  obtain⟨v,r',rfl,q,u⟩:=r
  exact Reps.cons q (Reps.take n u)
theorem Reps.drop:∀{ds:List D} {vs:List V} (n:Nat),Reps K F ds vs→Reps K F (ds.drop n) (vs.drop n)
 |_,_,0,r=>r
 |[],_,n+1,r=>by simp only[Reps] at r;subst r;simp only[List.drop_nil];exact Reps.nil
 |d::ds,_,n+1,r=>by
  simp only[Reps] at r
  obtain⟨v,r',rfl,q,u⟩:=r
  exact Reps.drop n u
theorem Reps.set{d:D}{v:V}(h:Rep K F d v):∀{ds:List D} {vs:List V} (i:Nat),Reps K F ds vs→Reps K F (ds.set i d) (vs.set i v)
 |[],_,_,r=>by simp only[Reps] at r;subst r;exact Reps.nil
 |e::ds,_,0,r=>by
  simp only[Reps] at r
  obtain⟨w,r',rfl,q,u⟩:=r
  exact Reps.cons h u
 |e::ds,_,i+1,r=>by
  simp only[Reps] at r
  obtain⟨w,r',rfl,q,u⟩:=r
  exact Reps.cons q (Reps.set h i u)
theorem Reps.one{d:D}{vs:List V}(h:Reps K F [d] vs):∃v,vs=[v]∧Rep K F d v:=by
 simp only[Reps] at h
 refine X22 h fun v r e q e2=>?_
 subst e2;exact Y11 v e q
theorem Reps.two{d e:D}{vs:List V}(h:Reps K F [d,e] vs):∃v w,vs=[v,w]∧Rep K F d v∧Rep K F e w:=by
 simp only[Reps] at h
 refine X22 h fun v r e1 q r37_=>?_;refine X22 r37_ fun w r2 e2 q2 e3=>?_
 subst e3;subst e2;exact Y22 v w e1 q q2
theorem Reps.rep{ds:List D}{vs:List V}(h:Reps K F ds vs):∀k:Nat,Reps K F (List.replicate k ds).flatten (List.replicate k vs).flatten:=by
 intro l_
 induction l_ with
 |zero=>
  exact Reps.nil
 |succ k ih_=>
  rw[List.replicate_succ,List.replicate_succ,List.flatten_cons,List.flatten_cons]
  exact Reps.append h (ih_)
theorem Reps.ints:∀(ns:List Int),Reps K F (ns.map D.int) (ns.map V.int):=by
 intro l_
 induction l_ with
 |nil=>
  exact Reps.nil
 |cons n r ih_=>
  exact Reps.cons (by simp only[Rep]) (ih_)
end
noncomputable def Tabs.rows:List (Addr×Nat×Nat×Str):=[(145,88,28,("in_order" : Str) ++ ".<locals>." ++ "<lambda>")]
noncomputable def Tabs.own:Str→Str→Bool:=fun c f=>(c == "Seeker" && f == "names")
noncomputable def Tabs.own2:Str→Str→Bool:=fun c f=>(c == "Seeker" && f == "levels")
noncomputable def Wp(c:Addr)(q:Str):Heap→Prop:=fun h=>h.CodeRec (.ref c) q
noncomputable def TOk(F H:Hp)(r:Addr×Nat×Nat×Str):Prop:=F r.1=none∧(H r.1=some (.tbl #[])∨∃c,H r.1=some (.tbl #[rawInt r.2.1,rawInt r.2.2.1,.ref c])∧H c=some (.ext (Wp c r.2.2.2)))
noncomputable def OwnOk(H:Hp):Prop:=∀d a,H d=some (.own a)→∃C dx vs,H a=some (.ins C dx vs)
noncomputable def TbT(F H:Hp):Prop:=(∀r∈Tabs.rows,TOk F H r)∧OwnOk H
theorem TOk.step{F H F' H':Hp}{r:Addr×Nat×Nat×Str}(t:TOk F H r)(nw:∀a o,F' a=some o→F a=some o∨H a=none)(k:∀a o,H a=some o→(∀vs,o≠.lst vs)→H' a=some o):TOk F' H' r:=by
 have hn:∀ps,H r.1=some (.tbl ps)→F' r.1=none:=fun ps e=>by
  cases q:F' r.1 with
  |none=>rfl
  |some o=>
   rcases nw _ _ q with z|z
   ·rw[t.1] at z;nomatch z
   ·rw[e] at z;nomatch z
 rcases t.2 with e|⟨c,e,e2⟩
 ·exact⟨hn _ e,.inl (k _ _ e fun _ z=>nomatch z)⟩
 ·exact⟨hn _ e,.inr ⟨c,k _ _ e (fun _ z=>nomatch z),k _ _ e2 fun _ z=>nomatch z⟩⟩
theorem TbT.step{F H F' H':Hp}(t:TbT F H)(nw:∀a o,F' a=some o→F a=some o∨H a=none)(k:∀a o,H a=some o→(∀vs,o≠.lst vs)→H' a=some o)(no:∀d a,H' d=some (.own a)→H d=some (.own a)):TbT F' H':=⟨fun r hr=>(t.1 r hr).step nw k,fun d a e=>by
 obtain⟨C,dx,vs,h⟩:=t.2 d a (no d a e)
 exact⟨C,dx,vs,k _ _ h fun _ z=>nomatch z⟩⟩
theorem TbT.freeze{F H:Hp}{a:Addr}{vs:List V}{o:HO}(t:TbT F H)(e:H a=some (.lst vs)):TbT (upd F a o) H:=⟨fun r hr=>by
 obtain⟨t1,t2⟩:=t.1 r hr
 have:r.1≠a:=fun z=>by
  rw[z,e] at t2
  rcases t2 with q|⟨c,q,_⟩ <;> cases q
 exact⟨by rw[zj this];exact t1,t2⟩,t.2⟩
noncomputable def Kp:HO→Option HO→Prop
 |.tbl _,r=>∃ps,r=some (.tbl ps)
 |o,r=>r=some o
noncomputable def Hh(H H':Hp):Prop:=∀b o,H b=some o→Kp o (H' b)
theorem Kp.of{o:HO}{r:Option HO}(h:r=some o):Kp o r:=by cases o <;> first|exact h|exact⟨_,h⟩
theorem Kp.some{o:HO}{r:Option HO}(h:Kp o r):r≠none:=by
 cases o <;> first | (obtain⟨_,h⟩:=h;rw[h];simp) | (have h:r=_:=h;rw[h];simp)
theorem Hh.of{H H':Hp}(h:Same H H'):Hh H H':=fun b o e=>.of (h b o e)
theorem Hh.refl(H:Hp):Hh H H:=.of (Same.refl H)
theorem Hh.trans{H H1 H2:Hp}(a:Hh H H1)(b:Hh H1 H2):Hh H H2:=fun c o e=>by
 have k:=a c o e
 cases o <;> first|exact b c _ k | (obtain⟨ps,q⟩:=k;show ∃ps,H2 c=some (.tbl ps);exact b c _ q)
theorem xm{F H:Hp}(h:Hh F H){a:Addr}(e:H a=none):F a=none:=by
 cases q:F a with
 |none=>rfl
 |some o=>exact absurd e (h a o q).some
structure Ext(F H F' H':Hp):Prop where
 ff:Same F F'
 hh:Hh H H'
 fh:Same F' H'
 nw:∀a o,F' a=some o→F a=some o∨H a=none
 tt:TbT F H→TbT F' H'
theorem Ext.refl{F H:Hp}(h:Same F H):Ext F H F H:=⟨Same.refl F,Hh.refl H,h,fun _ _ e=>.inl e,id⟩
theorem Ext.trans{F H F1 H1 F2 H2:Hp}(a:Ext F H F1 H1)(b:Ext F1 H1 F2 H2):Ext F H F2 H2:=
 ⟨a.ff.trans b.ff,a.hh.trans b.hh,b.fh,fun c o e=>by
  rcases b.nw c o e with q|q
  ·exact a.nw c o q
  ·exact .inr (xm a.hh q),fun t=>b.tt (a.tt t)⟩
theorem zF{F H:Hp}(h:Same F H){a:Addr}(e:H a=none):F a=none:=by
 cases q:F a with
 |none=>rfl
 |some o=>rw[h a o q] at e;nomatch e
theorem yq{H:Hp}{p:Addr}{o:HO}(h:H p=none):Same H (upd H p o):=fun b u q=>by rw[zj (zC q h)];exact q
theorem G8{F H:Hp}{p:Addr}{o:HO}(h:Same F H)(hp:H p=none):Same (upd F p o) (upd H p o):=fun b u q=>by
 by_cases hb:b=p
 ·subst hb;rw[zp] at q ⊢;exact q
 ·rw[zj hb] at q ⊢;exact h b u q
theorem Ext.same{F H F' H':Hp}(ff:Same F F')(hh:Same H H')(fh:Same F' H')(nw:∀a o,F' a=some o→F a=some o∨H a=none)(no:∀d a,H' d=some (.own a)→H d=some (.own a)):Ext F H F' H':=⟨ff,.of hh,fh,nw,fun t=>t.step nw (fun a o e _=>hh a o e) no⟩
theorem wv{H:Hp}{p:Addr}{o:HO}(ho:∀a,o≠.own a):∀d a,upd H p o d=some (.own a)→H d=some (.own a):=fun d a e=>by
 by_cases h:d=p
 ·subst h;rw[zp] at e;replace e:=sJ_ e;subst e;exact absurd rfl (ho a)
 ·rw[zj h] at e;exact e
theorem Ext.new{F H:Hp}{p:Addr}{o:HO}(h:Same F H)(hp:H p=none)(ho:∀a,o≠.own a:=by intro _ h;nomatch h):Ext F H (upd F p o) (upd H p o):=
 .same (yq (zF h hp)) (yq hp) (G8 h hp) (fun a u e=>by
  by_cases hb:a=p
  ·subst hb;exact .inr hp
  ·rw[zj hb] at e;exact .inl e) (wv ho)
theorem Ext.open{F H:Hp}{p:Addr}{o:HO}(h:Same F H)(hp:H p=none)(ho:∀a,o≠.own a:=by intro _ h;nomatch h):Ext F H F (upd H p o):=
 .same (Same.refl F) (yq hp) (h.trans (yq hp)) (fun a u e=>.inl e) (wv ho)
inductive Sl where
 | val (d:D)
 | own (ds:List D)
 | obj (n:Nat) (c:Str) (fs:List (Str×D))
 | obr (c:Str) (fs:List (Str×D))
noncomputable abbrev DS:=List (Option Sl)
noncomputable def OwnF(K:Frag)(F H:Hp)(d:D)(v:V):Prop:=∃ds l ws,d=.lst ds∧v=.ref l∧H l=some (.lst ws)∧F l=none∧Reps K F ds ws
noncomputable def Inn(K:Frag)(F H:Hp):List (List D)→List Addr→Prop
 |[],[]=>True
 |ds::r,a::s=>(∃ws,H a=some (.lst ws)∧F a=none∧Reps K F ds ws)∧Inn K F H r s
 |_,_=>False
noncomputable def Own2(K:Frag)(F H:Hp)(d:D)(v:V):Prop:=∃es l as,d=.lst (es.map D.lst)∧v=.ref l∧H l=some (.lst (as.map V.ref))∧F l=none∧Inn K F H es as
noncomputable def Fld1(K:Frag)(F H:Hp)(c f:Str)(d:D)(v:V):Prop:=if Tabs.own c f=true then OwnF K F H d v else if Tabs.own2 c f=true then Own2 K F H d v else Rep K F d v
noncomputable def Flds(K:Frag)(F H:Hp)(c:Str):List (Str×D)→List (Str×V)→Prop
 |[],[]=>True
 | (f,d)::r,(g,v)::s=>f=g∧Fld1 K F H c f d v∧Flds K F H c r s
 |_,_=>False
noncomputable def XE:List V→List Addr
 |[]=>[]
 |.ref a::r=>a::XE r
 |_::r=>XE r
theorem uH:∀as:List Addr,XE (as.map V.ref)=as:=by
 intro l_
 induction l_ with
 |nil=>
  exact rfl
 |cons a r ih_=>
  show a::XE (r.map V.ref)=_;rw[ih_]
noncomputable def zt8(H:Hp)(l:Addr):List Addr:=match H l with
 | some (.lst ws)=>XE ws
 |_=>[]
theorem v6{H:Hp}{l:Addr}{ws:List V}(h:H l=some (.lst ws)):zt8 H l=XE ws:=by unfold zt8;rw[h]
noncomputable def yD(H:Hp)(c f:Str)(v:V):List Addr:=match v with
 |.ref l=>if Tabs.own c f=true then [l] else if Tabs.own2 c f=true then l::zt8 H l else []
 |_=>[]
noncomputable def zT(H:Hp)(c:Str):List (Str×V)→List Addr
 |[]=>[]
 | (f,v)::r=>yD H c f v++zT H c r
noncomputable def Lof(H:Hp)(c:Str)(a:Addr):List Addr:=match H a with
 | some (.ins _ _ vs)=>zT H c vs
 |_=>[]
theorem Lof.ins{H:Hp}{c:Str}{a C dx:Addr}{vs:List (Str×V)}(h:H a=some (.ins C dx vs)):Lof H c a=zT H c vs:=by unfold Lof;rw[h]
theorem Inn.own{K:Frag}{F H:Hp}{l:Addr}:∀{es:List (List D)} {as:List Addr},Inn K F H es as→l∈as→F l=none∧∃ws,H l=some (.lst ws)
 |[],[],_,h=>by cases h
 |_::_,_::_,q,h=>by
  obtain⟨⟨ws,e1,e2,_⟩,q⟩:=q
  rcases List.mem_cons.mp h with rfl|h
  ·exact⟨e2,ws,e1⟩
  ·exact Inn.own q h
 |[],_::_,q,_=>q.elim
 |_::_,[],q,_=>q.elim
theorem Inn.keep{K:Frag}{F H F' H':Hp}(hf:Same F F'):∀{es:List (List D)} {as:List Addr},Inn K F H es as→(∀l ws,l∈as→H l=some (.lst ws)→F l=none→H' l=some (.lst ws)∧F' l=none)→Inn K F' H' es as
 |[],[],_,_=>trivial
 |_::_,a::_,q,k=>by
  obtain⟨⟨ws,e1,e2,e3⟩,q⟩:=q
  obtain⟨k1,k2⟩:=k a ws List.mem_cons_self e1 e2
  exact⟨⟨ws,k1,k2,e3.mono hf⟩,Inn.keep hf q fun l ws hl=>k l ws (List.mem_cons_of_mem _ hl)⟩
 |[],_::_,q,_=>q.elim
 |_::_,[],q,_=>q.elim
theorem _root_.rI_{a b:Addr}(h:L2.V.ref a=L2.V.ref b):a=b:=L2.V.ref.inj h
theorem Fld1.own{K:Frag}{F H:Hp}{c f:Str}{d:D}{v:V}{l:Addr}(q:Fld1 K F H c f d v)(h:l∈yD H c f v):F l=none∧∃ws,H l=some (.lst ws):=by
 unfold Fld1 at q
 unfold yD at h
 cases v with
 |ref a=>
  simp only at h
  by_cases z:Tabs.own c f=true
  ·rw[if_pos z] at h q
   refine X34 q fun ds l' ws e1 e2 e3 e4 e5=>?_
   replace e2:=rI_ e2;subst e2
   have:l=a:=by simpa using h
   subst this;exact⟨e4,ws,e3⟩
  ·rw[if_neg z] at h q
   by_cases z2:Tabs.own2 c f=true
   ·rw[if_pos z2] at h q
    refine X34 q fun es l' as e1 e2 e3 e4 e5=>?_
    replace e2:=rI_ e2;subst e2
    rw[v6 e3,uH] at h
    rcases List.mem_cons.mp h with rfl|h
    ·exact⟨e4,_,e3⟩
    ·exact e5.own h
   ·rw[if_neg z2] at h;cases h
 |_=>cases h
theorem Fld1.keep{K:Frag}{F H F' H':Hp}{c f:Str}{d:D}{v:V}(hf:Same F F')(q:Fld1 K F H c f d v)(k:∀l ws,l∈yD H c f v→H l=some (.lst ws)→F l=none→H' l=some (.lst ws)∧F' l=none):Fld1 K F' H' c f d v:=by
 unfold Fld1 at q ⊢
 by_cases z:Tabs.own c f=true
 ·rw[if_pos z] at q ⊢
  obtain⟨ds,l,ws,e1,rfl,e3,e4,e5⟩:=q
  obtain⟨k1,k2⟩:=k l ws (by unfold yD;simp only;rw[if_pos z];exact List.mem_cons_self) e3 e4
  exact⟨ds,l,ws,e1,rfl,k1,k2,e5.mono hf⟩
 ·rw[if_neg z] at q ⊢
  by_cases z2:Tabs.own2 c f=true
  ·rw[if_pos z2] at q ⊢
   obtain⟨es,l,as,e1,rfl,e3,e4,e5⟩:=q
   have eo:yD H c f (.ref l)=l::as:=by unfold yD;simp only;rw[if_neg z,if_pos z2,v6 e3,uH]
   obtain⟨k1,k2⟩:=k l _ (by rw[eo];exact List.mem_cons_self) e3 e4
   exact⟨es,l,as,e1,rfl,k1,k2,e5.keep hf fun l ws hl=>k l ws (by rw[eo];exact List.mem_cons_of_mem _ hl)⟩
  ·rw[if_neg z2] at q ⊢;exact q.mono hf
theorem Fld1.same{K:Frag}{F H H':Hp}{c f:Str}{d:D}{v:V}(q:Fld1 K F H c f d v)(k:∀l ws,l∈yD H c f v→H l=some (.lst ws)→H' l=some (.lst ws)):yD H' c f v=yD H c f v:=by
 unfold Fld1 at q
 cases v with
 |ref a=>
  unfold yD at k ⊢
  simp only at k ⊢
  by_cases z:Tabs.own c f=true
  ·rw[if_pos z,if_pos z]
  ·rw[if_neg z] at q k;rw[if_neg z,if_neg z]
   by_cases z2:Tabs.own2 c f=true
   ·rw[if_pos z2] at q k;rw[if_pos z2,if_pos z2]
    refine X34 q fun es l' as e1 e2 e3 e4 e5=>?_
    replace e2:=rI_ e2;subst e2
    rw[v6 e3,v6 (k a _ List.mem_cons_self e3)]
   ·rw[if_neg z2,if_neg z2]
 |_=>rfl
theorem Flds.own{K:Frag}{F H:Hp}{c:Str}{l:Addr}:∀{fs:List (Str×D)} {vs:List (Str×V)},Flds K F H c fs vs→l∈zT H c vs→F l=none∧∃ws,H l=some (.lst ws)
 |[],[],_,h=>by cases h
 | (f,d)::r,(g,v)::s,q,h=>by
  obtain⟨rfl,q2,q3⟩:=q
  rcases List.mem_append.mp (show l∈yD H c f v++zT H c s from h) with h|h
  ·exact q2.own h
  ·exact Flds.own q3 h
 |[],_::_,q,_=>q.elim
 |_::_,[],q,_=>q.elim
theorem Flds.keep{K:Frag}{F H F' H':Hp}{c:Str}(hf:Same F F'):∀{fs:List (Str×D)} {vs:List (Str×V)},Flds K F H c fs vs→(∀l ws,l∈zT H c vs→H l=some (.lst ws)→F l=none→H' l=some (.lst ws)∧F' l=none)→Flds K F' H' c fs vs
 |[],[],_,_=>trivial
 | (f,d)::r,(g,v)::s,q,k=>by
  obtain⟨rfl,q2,q3⟩:=q
  exact⟨rfl,q2.keep hf fun l ws hl=>k l ws (List.mem_append.mpr (.inl hl)),Flds.keep hf q3 fun l ws hl=>k l ws (List.mem_append.mpr (.inr hl))⟩
 |[],_::_,q,_=>q.elim
 |_::_,[],q,_=>q.elim
theorem Flds.same{K:Frag}{F H H':Hp}{c:Str}:∀{fs:List (Str×D)} {vs:List (Str×V)},Flds K F H c fs vs→(∀l ws,l∈zT H c vs→H l=some (.lst ws)→H' l=some (.lst ws))→zT H' c vs=zT H c vs
 |[],[],_,_=>rfl
 | (f,d)::r,(g,v)::s,q,k=>by
  obtain⟨rfl,q2,q3⟩:=q
  show yD H' c f v++zT H' c s=yD H c f v++zT H c s
  rw[q2.same fun l ws hl=>k l ws (List.mem_append.mpr (.inl hl)),Flds.same q3 fun l ws hl=>k l ws (List.mem_append.mpr (.inr hl))]
 |[],_::_,q,_=>q.elim
 |_::_,[],q,_=>q.elim
theorem U4{B H:Hp}{c:Str}(hh:∀b ws,B b=some (.lst ws)→H b=some (.lst ws)):∀{vs:List (Str×V)},(∀l∈zT B c vs,∃ws,B l=some (.lst ws))→zT H c vs=zT B c vs
 |[],_=>rfl
 | (f,v)::s,k=>by
  show yD H c f v++zT H c s=yD B c f v++zT B c s
  rw[U4 hh fun l hl=>k l (List.mem_append.mpr (.inr hl))]
  congr 1
  have k1:∀l∈yD B c f v,∃ws,B l=some (.lst ws):=fun l hl=>k l (List.mem_append.mpr (.inl hl))
  cases v with
  |ref a=>
   unfold yD at k1 ⊢
   simp only at k1 ⊢
   by_cases z:Tabs.own c f=true
   ·rw[if_pos z,if_pos z]
   ·rw[if_neg z] at k1;rw[if_neg z,if_neg z]
    by_cases z2:Tabs.own2 c f=true
    ·rw[if_pos z2] at k1;rw[if_pos z2,if_pos z2]
     obtain⟨ws,e⟩:=k1 a List.mem_cons_self
     rw[v6 e,v6 (hh _ _ e)]
    ·rw[if_neg z2,if_neg z2]
  |_=>rfl
noncomputable def WR(K:Frag)(F H:Hp)(c:Str)(fs:List (Str×D))(a:Addr):Prop:=∃C dx vs,H a=some (.ins C dx vs)∧F a=none∧nsIn K mainGlobals c=some (some (.ref C))∧Flds K F H c fs vs∧H dx=some (.own a)∧(zT H c vs).Nodup
noncomputable def ObS(s:Option (Option Sl))(c:Str):Prop:=(∃n fs,s=some (some (.obj n c fs)))∨∃fs,s=some (some (.obr c fs))
structure ObsOk(K:Frag)(F:Hp)(τ:DS)(σ:St)(H:Hp):Prop where
 at_:∀(i n:Nat) (c:Str) (fs:List (Str×D)),τ[i]?=some (some (.obj n c fs))→∃a,σ[i]?=some (some (.ref a))∧WR K F H c fs a
 dis:∀(i j n:Nat) (c c':Str) (fs:List (Str×D)) (a:Addr),i≠j→τ[i]?=some (some (.obj n c fs))→ObS τ[j]? c'→σ[i]?=some (some (.ref a))→σ[j]?=some (some (.ref a))→False
 rd:∀(i:Nat) (c:Str) (fs:List (Str×D)),τ[i]?=some (some (.obr c fs))→∃a C dx vs,σ[i]?=some (some (.ref a))∧H a=some (.ins C dx vs)∧nsIn K mainGlobals c=some (some (.ref C))∧Flds K F H c fs vs
 ll:∀(i j n:Nat) (c c':Str) (fs:List (Str×D)) (a a' l:Addr),i≠j→τ[i]?=some (some (.obj n c fs))→ObS τ[j]? c'→σ[i]?=some (some (.ref a))→σ[j]?=some (some (.ref a'))→l∈Lof H c a→l∈Lof H c' a'→False
 lo:∀(i j:Nat) (c:Str) (ds:List D) (a l:Addr),ObS τ[i]? c→τ[j]?=some (some (.own ds))→σ[i]?=some (some (.ref a))→σ[j]?=some (some (.ref l))→l∈Lof H c a→False
noncomputable def Jj:Option Sl→Bool
 | some (.obj _ _ _)=>true
 | some (.obr _ _)=>true
 |_=>false
noncomputable def noObj(τ:DS):Prop:=∀(i:Nat) s,τ[i]?=some s→Jj s=false
theorem noObj.obs{τ:DS}(n:noObj τ){i:Nat}{c:Str}(h:ObS τ[i]? c):False:=by
 rcases h with ⟨m,fs,h⟩|⟨fs,h⟩
 ·have:=n i _ h;cases this
 ·have:=n i _ h;cases this
theorem ObsOk.none{K:Frag}{F H:Hp}{τ:DS}{σ:St}(n:noObj τ):ObsOk K F τ σ H:=
 ⟨fun i m c fs h=>(by have:=n i _ h;cases this),fun i j m c c' fs a _ h=>(by have:=n i _ h;cases this),fun i c fs h=>(by have:=n i _ h;cases this),fun i j m c c' fs a a' l _ h=>(by have:=n i _ h;cases this),fun i j c ds a l h=>(n.obs h).elim⟩
theorem ObsOk.get{K:Frag}{F H:Hp}{τ:DS}{σ:St}{i:Nat}{c:Str}(o:ObsOk K F τ σ H)(h:ObS τ[i]? c):∃a C dx vs fs,σ[i]?=some (some (.ref a))∧H a=some (.ins C dx vs)∧Flds K F H c fs vs:=by
 rcases h with ⟨m,fs,h⟩|⟨fs,h⟩
 ·refine X11 (o.at_ i m c fs h) fun a h1 r38_=>?_;refine X34 r38_ fun C dx vs h2 _ _ h5 _=>?_
  exact⟨a,C,dx,vs,fs,h1,h2,h5⟩
 ·obtain⟨a,C,dx,vs,h1,h2,_,h5⟩:=o.rd i c fs h
  exact⟨a,C,dx,vs,fs,h1,h2,h5⟩
theorem _root_.tI_{a b:Addr}(h:some (some (L2.V.ref a))=some (some (L2.V.ref b))):a=b:=L2.V.ref.inj (Option.some.inj (Option.some.inj h))
theorem ObsOk.keep{K:Frag}{F H F' H':Hp}{τ:DS}{σ:St}(o:ObsOk K F τ σ H)(hf:Same F F')(hi:∀a C dx vs,H a=some (.ins C dx vs)→H' a=some (.ins C dx vs))(hn:∀a C dx vs,H a=some (.ins C dx vs)→F a=Option.none→F' a=Option.none)(hd:∀d a,H d=some (.own a)→H' d=some (.own a))
  (hl:∀(i:Nat) (c:Str) (a l:Addr) (ws:List V),ObS τ[i]? c→σ[i]?=some (some (.ref a))→l∈Lof H c a→H l=some (.lst ws)→F l=Option.none→H' l=some (.lst ws)∧F' l=Option.none):ObsOk K F' τ σ H':=by
 have lof:∀{i:Nat} {c:Str} {a:Addr},ObS τ[i]? c→σ[i]?=some (some (.ref a))→Lof H' c a=Lof H c a:=fun {i c a} h e=>by
  obtain⟨a',C,dx,vs,fs,h1,h2,h3⟩:=o.get h
  rw[e] at h1;replace h1:=tI_ h1;subst h1
  rw[Lof.ins h2,Lof.ins (hi _ _ _ _ h2)]
  exact h3.same fun l ws q e1=>(hl i c a l ws h e (by rw[Lof.ins h2];exact q) e1 (h3.own q).1).1
 refine⟨fun i m c fs h=>?_,o.dis,fun i c fs h=>?_,fun i j m c c' fs a a' l hij h1 h2 h3 h4 h5 h6=>?_,fun i j c ds a l h1 h2 h3 h4 h5=>?_⟩
 ·refine X11 (o.at_ i m c fs h) fun a h1 r39_=>?_;refine X35 r39_ fun C dx vs h2 h3 h4 h5 h6 h7=>?_
  exact⟨a,h1,C,dx,vs,hi _ _ _ _ h2,hn _ _ _ _ h2 h3,h4,h5.keep hf fun l ws q=>hl i c a l ws (.inl ⟨m,fs,h⟩) h1 (by rw[Lof.ins h2];exact q),hd _ _ h6,by rw[h5.same fun l ws q e1=>(hl i c a l ws (.inl ⟨m,fs,h⟩) h1 (by rw[Lof.ins h2];exact q) e1 (h5.own q).1).1];exact h7⟩
 ·obtain⟨a,C,dx,vs,h1,h2,h4,h5⟩:=o.rd i c fs h
  exact⟨a,C,dx,vs,h1,hi _ _ _ _ h2,h4,h5.keep hf fun l ws q=>hl i c a l ws (.inr ⟨fs,h⟩) h1 (by rw[Lof.ins h2];exact q)⟩
 ·rw[lof (.inl ⟨m,fs,h1⟩) h3] at h5
  rw[lof h2 h4] at h6
  exact o.ll i j m c c' fs a a' l hij h1 h2 h3 h4 h5 h6
 ·rw[lof h1 h3] at h5
  exact o.lo i j c ds a l h1 h2 h3 h4 h5
theorem ObsOk.ext{K:Frag}{F H F' H':Hp}{τ:DS}{σ:St}(o:ObsOk K F τ σ H)(x:Ext F H F' H'):ObsOk K F' τ σ H':=by
 have nF:∀{a:Addr} {u:HO},H a=some u→F a=Option.none→F' a=Option.none:=fun {a u} h h3=>by
  cases q:F' a with
  |none=>rfl
  |some w=>
   rcases x.nw a w q with z|z
   ·rw[h3] at z;nomatch z
   ·rw[h] at z;nomatch z
 exact o.keep x.ff (fun a C dx vs h=>x.hh _ _ h) (fun a C dx vs h=>nF h) (fun d a h=>x.hh _ _ h) fun i c a l ws _ _ _ h h3=>⟨x.hh _ _ h,nF h h3⟩
theorem ObsOk.updL{K:Frag}{F H:Hp}{τ:DS}{σ:St}{p:Addr}{u:HO}(o:ObsOk K F τ σ H)(hl:H p=.none∨∃vs,H p=some (.lst vs))(hp:∀(i:Nat) (c:Str) (a:Addr),ObS τ[i]? c→σ[i]?=some (some (.ref a))→p∉Lof H c a):ObsOk K F τ σ (upd H p u):=by
 have ne:∀{a:Addr} {w:HO},H a=some w→(∀vs,w≠.lst vs)→a≠p:=fun {a w} h n z=>by
  subst z
  rcases hl with z|⟨ws,z⟩
  ·rw[z] at h;nomatch h
  ·rw[z] at h;replace h:=sI_ h;subst h;exact n _ rfl
 refine o.keep (Same.refl F) (fun a C dx vs h=>?_) (fun a C dx vs _ h=>h) (fun d a h=>?_) fun i c a l ws h1 h2 h3 h4 h5=>⟨?_,h5⟩
 ·rw[zj (ne h fun _ z=>nomatch z)];exact h
 ·rw[zj (ne h fun _ z=>nomatch z)];exact h
 ·have:l≠p:=fun z=>by subst z;exact hp i c a h1 h2 h3
  rw[zj this];exact h4
theorem yV{τ:DS}{i j:Nat}{s u:Option Sl}(hs:Jj s=false)(hu:Jj u=true)(h:(τ.set i s)[j]?=some u):i≠j∧τ[j]?=some u:=by
 by_cases hij:i=j
 ·subst hij
  rw[List.getElem?_set] at h
  simp only[if_true] at h
  split at h
  ·replace h:=sI_ h;subst h;rw[hs] at hu;nomatch hu
  ·nomatch h
 ·rw[List.getElem?_set_ne hij] at h;exact⟨hij,h⟩
theorem jS{τ:DS}{i j:Nat}{s:Option Sl}{c:Str}(hs:Jj s=false)(h:ObS (τ.set i s)[j]? c):i≠j∧ObS τ[j]? c:=by
 rcases h with ⟨n,fs,h⟩|⟨fs,h⟩
 ·obtain⟨a,b⟩:=yV hs rfl h;exact⟨a,.inl ⟨n,fs,b⟩⟩
 ·obtain⟨a,b⟩:=yV hs rfl h;exact⟨a,.inr ⟨fs,b⟩⟩
theorem ObsOk.put{K:Frag}{F H:Hp}{τ:DS}{σ:St}{i:Nat}{s:Option Sl}{v:Option V}(o:ObsOk K F τ σ H)(hs:Jj s=false)(hw:∀ds l,s=some (.own ds)→v=some (.ref l)→∀(j:Nat) (c:Str) (a:Addr),ObS τ[j]? c→σ[j]?=some (some (.ref a))→l∉Lof H c a):ObsOk K F (τ.set i s) (σ.set i v) H:=
 ⟨fun j m c fs h=>by
  obtain⟨n,h⟩:=yV hs rfl h
  rw[List.getElem?_set_ne n];exact o.at_ j m c fs h,
  fun j k m c c' fs a hjk h1 h2 h3 h4=>by
   obtain⟨n1,h1⟩:=yV hs rfl h1
   obtain⟨n2,h2⟩:=jS hs h2
   rw[List.getElem?_set_ne n1] at h3
   rw[List.getElem?_set_ne n2] at h4
   exact o.dis j k m c c' fs a hjk h1 h2 h3 h4,
  fun j c fs h=>by
   obtain⟨n,h⟩:=yV hs rfl h
   rw[List.getElem?_set_ne n];exact o.rd j c fs h,
  fun j k m c c' fs a a' l hjk h1 h2 h3 h4=>by
   obtain⟨n1,h1⟩:=yV hs rfl h1
   obtain⟨n2,h2⟩:=jS hs h2
   rw[List.getElem?_set_ne n1] at h3
   rw[List.getElem?_set_ne n2] at h4
   exact o.ll j k m c c' fs a a' l hjk h1 h2 h3 h4,
  fun j k c ds a l h1 h2 h3 h4 h5=>by
   obtain⟨n1,g1⟩:=jS hs h1
   rw[List.getElem?_set_ne n1] at h3
   by_cases e:i=k
   ·subst e
    rw[List.getElem?_set] at h2 h4
    simp only[if_true] at h2 h4
    split at h2
    ·split at h4
     ·exact hw ds l (by simpa using h2) (by simpa using h4) j c a g1 h3 h5
     ·nomatch h4
    ·nomatch h2
   ·rw[List.getElem?_set_ne e] at h2 h4
    exact o.lo j k c ds a l g1 h2 h3 h4 h5⟩
theorem ObsOk.putS{K:Frag}{F H:Hp}{τ:DS}{σ:St}{i:Nat}{ds es:List D}(o:ObsOk K F τ σ H)(hi:τ[i]?=some (some (.own ds))):ObsOk K F (τ.set i (some (.own es))) σ H:=
 ⟨fun j m c fs h=>o.at_ j m c fs (yV (s:=some (.own es)) rfl rfl h).2,fun j k m c c' fs a hjk h1 h2=>o.dis j k m c c' fs a hjk (yV (s:=some (.own es)) rfl rfl h1).2 (jS (s:=some (.own es)) rfl h2).2,fun j c fs h=>o.rd j c fs (yV (s:=some (.own es)) rfl rfl h).2,
  fun j k m c c' fs a a' l hjk h1 h2=>o.ll j k m c c' fs a a' l hjk (yV (s:=some (.own es)) rfl rfl h1).2 (jS (s:=some (.own es)) rfl h2).2,fun j k c ds' a l h1 h2 h3 h4 h5=>by
   have h1:=(jS (s:=some (.own es)) rfl h1).2
   by_cases e:i=k
   ·subst e;exact o.lo j i c ds a l h1 hi h3 h4 h5
   ·rw[List.getElem?_set_ne e] at h2;exact o.lo j k c ds' a l h1 h2 h3 h4 h5⟩
theorem ObsOk.fresh{K:Frag}{F H:Hp}{τ:DS}{σ:St}{p:Addr}(o:ObsOk K F τ σ H)(hp:H p=.none):∀(i:Nat) (c:Str) (a:Addr),ObS τ[i]? c→σ[i]?=some (some (.ref a))→p∉Lof H c a:=fun i c a h e hl=>by
 obtain⟨a',C,dx,vs,fs,h1,h2,h3⟩:=o.get h
 rw[e] at h1;replace h1:=tI_ h1;subst h1
 rw[Lof.ins h2] at hl
 refine X01 (h3.own hl) fun _ r40_=>?_;refine X10 r40_ fun ws q=>?_
 rw[hp] at q;nomatch q
theorem ObsOk.lof{K:Frag}{F H:Hp}{τ:DS}{σ:St}{i:Nat}{c:Str}{a p:Addr}{u:HO}(o:ObsOk K F τ σ H)(h1:ObS τ[i]? c)(h2:σ[i]?=some (some (.ref a)))(hl:H p=.none∨∃vs,H p=some (.lst vs))(hp:p∉Lof H c a):Lof (upd H p u) c a=Lof H c a:=by
 obtain⟨a',C,dx,vs,fs,h3,h4,h5⟩:=o.get h1
 rw[h2] at h3;replace h3:=tI_ h3;subst h3
 have:a≠p:=fun z=>by
  subst z
  rcases hl with z|⟨ws,z⟩
  ·rw[z] at h4;nomatch h4
  ·rw[z] at h4;nomatch h4
 rw[Lof.ins h4] at hp
 rw[Lof.ins h4,Lof.ins (show upd H p u a=some (.ins C dx vs) by rw[zj this];exact h4)]
 exact h5.same fun l ws q e1=>by
  have:l≠p:=fun z=>by subst z;exact hp q
  rw[zj this];exact e1
structure RV(K:Frag)(F:Hp)(τ:DS)(σ:St)(H:Hp):Prop where
 fh:Same F H
 len:τ.length=σ.length
 val:∀(i:Nat) (d:D),τ[i]?=some (some (.val d))→∃v,σ[i]?=some (some v)∧Rep K F d v
 own:∀(i:Nat) (ds:List D),τ[i]?=some (some (.own ds))→∃a vs,σ[i]?=some (some (.ref a))∧H a=some (.lst vs)∧F a=none∧Reps K F ds vs
 dis:∀(i j:Nat) (ds es:List D) (a:Addr),i≠j→τ[i]?=some (some (.own ds))→τ[j]?=some (some (.own es))→σ[i]?=some (some (.ref a))→σ[j]?=some (some (.ref a))→False
 tt:TbT F H
 ob:ObsOk K F τ σ H
theorem RV.ext{K:Frag}{F H F' H':Hp}{τ:DS}{σ:St}(R:RV K F τ σ H)(x:Ext F H F' H'):RV K F' τ σ H':=
 ⟨x.fh,R.len,fun i d e=>by
  refine X11 (R.val i d e) fun v h1 h2=>?_
  exact⟨v,h1,h2.mono x.ff⟩,
  fun i ds e=>by
   refine X23 (R.own i ds e) fun a vs h1 h2 h3 h4=>?_
   refine⟨a,vs,h1,x.hh _ _ h2,?_,h4.mono x.ff⟩
   cases q:F' a with
   |none=>rfl
   |some o=>
    rcases x.nw a o q with z|z
    ·rw[h3] at z;nomatch z
    ·rw[h2] at z;exact absurd z (by simp),
  R.dis,x.tt R.tt,R.ob.ext x⟩
structure RS(K:Frag)(B Z F:Hp)(τ:DS)(σ:St)(H:Hp):Prop where
 rv:RV K F τ σ H
 bh:Hh B H
 zf:Same Z F
 nb:∀a o,F a=some o→Z a=some o∨B a=none
 ob:∀(i:Nat) (ds:List D) (a:Addr),τ[i]?=some (some (.own ds))→σ[i]?=some (some (.ref a))→B a=none
 oo:∀(i n:Nat) (c:Str) (fs:List (Str×D)) (a:Addr),τ[i]?=some (some (.obj n c fs))→σ[i]?=some (some (.ref a))→B a=none∧∀l∈Lof H c a,B l=none
 sf:∀(a0 dx:Addr),B dx=some (.own a0)→B a0=none→∀(i n:Nat) (c:Str) (fs:List (Str×D)),τ[i]?=some (some (.obj (n+1) c fs))→σ[i]?=some (some (.ref a0))
 ro:∀(i:Nat) (c:Str) (fs:List (Str×D)) (a:Addr),τ[i]?=some (some (.obr c fs))→σ[i]?=some (some (.ref a))→∃C dx vs,B a=some (.ins C dx vs)∧∀l∈zT B c vs,∃ws,B l=some (.lst ws)
theorem RS.ext{K:Frag}{B Z F H F' H':Hp}{τ:DS}{σ:St}(R:RS K B Z F τ σ H)(x:Ext F H F' H'):RS K B Z F' τ σ H':=
 ⟨R.rv.ext x,R.bh.trans x.hh,R.zf.trans x.ff,fun a o e=>by
  rcases x.nw a o e with q|q
  ·exact R.nb a o q
  ·exact .inr (xm R.bh q),R.ob,fun i n c fs a h1 h2=>by
  obtain⟨q1,q2⟩:=R.oo i n c fs a h1 h2
  refine⟨q1,fun l hl=>q2 l ?_⟩
  refine X11 (R.rv.ob.at_ i n c fs h1) fun a' h3 r41_=>?_;refine X34 r41_ fun C dx vs h4 _ _ h5 _=>?_
  rw[h2] at h3;replace h3:=tI_ h3;subst h3
  rw[Lof.ins h4]
  rw[Lof.ins (x.hh _ _ h4:H' a=some (.ins C dx vs)),h5.same fun l ws _ e=>x.hh _ _ e] at hl
  exact hl,R.sf,R.ro⟩
theorem RS.out{K:Frag}{B Z F H:Hp}{τ:DS}{σ:St}(R:RS K B Z F τ σ H):Ext Z B F H:=⟨R.zf,R.bh,R.rv.fh,R.nb,fun _=>R.rv.tt⟩
noncomputable def Xob(X:Cx)(c:Str):Prop:=∀e s',X.xe e s'
noncomputable def Ok(X:Cx){α:Type}(r:Rs α)(P:α→Prop):Prop:=match r with
 |.ok a=>P a
 |.ex c=>Xob X c
 |.no=>False
theorem Ok.bind{X:Cx}{α β:Type}{r:Rs α}{k:α→Rs β}{P:β→Prop}(h:Ok X (r.bind k) P):Ok X r fun a=>Ok X (k a) P:=by
 cases r <;> exact h
theorem Ok.imp{X:Cx}{α:Type}{r:Rs α}{P Q:α→Prop}(h:Ok X r P)(f:∀a,P a→Q a):Ok X r Q:=by
 cases r with
 |ok a=>exact f a h
 |ex c=>exact h
 |no=>exact h
noncomputable abbrev FE:=DS→Rs D
noncomputable abbrev FA:=DS→Rs (List D)
noncomputable abbrev FT:=DS→Rs Bool
noncomputable def Ev(K:Frag)(F H:Hp)(Q:VK)(d:D):Prop:=∀v F' H',Ext F H F' H'→Rep K F' d v→Q v H'
noncomputable def Evs(K:Frag)(F H:Hp)(Q:List V→Hp→Prop)(ds:List D):Prop:=∀vs F' H',Ext F H F' H'→Reps K F' ds vs→Q vs H'
noncomputable def Evb(F H:Hp)(Q:Bool→Hp→Prop)(b:Bool):Prop:=∀F' H',Ext F H F' H'→Q b H'
theorem Ev.ext{K:Frag}{F H F1 H1:Hp}{Q:VK}{d:D}(h:Ev K F H Q d)(x:Ext F H F1 H1):Ev K F1 H1 Q d:=fun v F' H' y r=>h v F' H' (x.trans y) r
theorem Evb.ext{F H F1 H1:Hp}{Q:Bool→Hp→Prop}{d:Bool}(h:Evb F H Q d)(x:Ext F H F1 H1):Evb F1 H1 Q d:=fun F' H' y=>h F' H' (x.trans y)
noncomputable def tE(X:Cx)(f:FE):TE:=fun σ H Q=>∃F τ,RV X.K F τ σ H∧Ok X (f τ) (Ev X.K F H Q)
noncomputable def tAs(X:Cx)(f:FA):TA:=fun σ H Q=>∃F τ,RV X.K F τ σ H∧Ok X (f τ) (Evs X.K F H Q)
noncomputable def tTs(X:Cx)(f:FT):TT:=fun σ H Q=>∃F τ,RV X.K F τ σ H∧Ok X (f τ) (Evb F H Q)
noncomputable def PDE(X:Cx)(e:Expr)(f:FE):Prop:=PE X e (tE X f)
noncomputable def PDA(X:Cx)(e:List Expr)(f:FA):Prop:=PA X e (tAs X f)
noncomputable def PDT(X:Cx)(e:Expr)(f:FT):Prop:=PT X e (tTs X f)
noncomputable def PDW(X:Cx)(e:Expr)(f:FT):Prop:=PW X e (tTs X f)
theorem _root_.L2.PE.imp{X:Cx}{e:Expr}{t t':TE}(h:PE X e t)(f:∀σ H Q,t' σ H Q→t σ H Q):PE X e t':=fun pins s σ H Q I q=>h pins s σ H Q I (f _ _ _ q)
theorem _root_.L2.PT.imp{X:Cx}{e:Expr}{t t':TT}(h:PT X e t)(f:∀σ H Q,t' σ H Q→t σ H Q):PT X e t':=fun pins s σ H Q I q=>h pins s σ H Q I (f _ _ _ q)
theorem _root_.L2.PW.imp{X:Cx}{e:Expr}{t t':TT}(h:PW X e t)(f:∀σ H Q,t' σ H Q→t σ H Q):PW X e t':=fun w pins s σ H Q I q=>h w pins s σ H Q I (f _ _ _ q)
theorem _root_.L2.PA.imp{X:Cx}{e:List Expr}{t t':TA}(h:PA X e t)(f:∀σ H Q,t' σ H Q→t σ H Q):PA X e t':=fun p pins s σ H Q I q=>h p pins s σ H Q I (f _ _ _ q)
theorem _root_.L2.PS.imp{X:Cx}{e:Stmt}{t t':TS}(h:PS X e t)(f:∀E σ H,t' E σ H→t E σ H):PS X e t':=fun pins s σ H Q I q=>h pins s σ H Q I (f _ _ _ q)
theorem _root_.L2.PSs.imp{X:Cx}{e:List Stmt}{t t':TS}(h:PSs X e t)(f:∀E σ H,t' E σ H→t E σ H):PSs X e t':=fun pins s σ H Q I q=>h pins s σ H Q I (f _ _ _ q)
theorem tE.of{X:Cx}{f:FE}{F H:Hp}{τ:DS}{σ:St}{Q:VK}{G:D→Prop}(R:RV X.K F τ σ H)(h:Ok X (f τ) G)
  (k:∀d v F1 H1,G d→Ext F H F1 H1→RV X.K F1 τ σ H1→Rep X.K F1 d v→Q v H1):tE X f σ H Q:=
 ⟨F,τ,R,h.imp fun d g v F1 H1 x r=>k d v F1 H1 g x (R.ext x) r⟩
theorem tAs.of{X:Cx}{f:FA}{F H:Hp}{τ:DS}{σ:St}{Q:List V→Hp→Prop}{G:List D→Prop}(R:RV X.K F τ σ H)(h:Ok X (f τ) G)
  (k:∀d v F1 H1,G d→Ext F H F1 H1→RV X.K F1 τ σ H1→Reps X.K F1 d v→Q v H1):tAs X f σ H Q:=
 ⟨F,τ,R,h.imp fun d g v F1 H1 x r=>k d v F1 H1 g x (R.ext x) r⟩
theorem tTs.of{X:Cx}{f:FT}{F H:Hp}{τ:DS}{σ:St}{Q:Bool→Hp→Prop}{G:Bool→Prop}(R:RV X.K F τ σ H)(h:Ok X (f τ) G)
  (k:∀b F1 H1,G b→Ext F H F1 H1→RV X.K F1 τ σ H1→Q b H1):tTs X f σ H Q:=
 ⟨F,τ,R,h.imp fun d g F1 H1 x=>k d F1 H1 g x (R.ext x)⟩
noncomputable def ze(i:Nat):FE:=fun τ=>match τ[i]? with
 | some (some (.val d))=>.ok d
 |_=>.no
section
variable{X:Cx}{pos:Pos}
theorem zb{i:Nat}{x:Str}(h:PE X (.Name x pos) (xf i)):PDE X (.Name x pos) (ze i):=h.imp fun σ H Q z_=>by
 refine X21 z_ fun F τ R q=>?_
 unfold ze at q
 cases e:τ[i]? with
 |none=>rw[e] at q;exact q.elim
 |some o=>
  cases o with
  |none=>rw[e] at q;exact q.elim
  |some sl=>
   cases sl with
   |own ds=>rw[e] at q;exact q.elim
   |obj n c fs=>rw[e] at q;exact q.elim
   |obr c fs=>rw[e] at q;exact q.elim
   |val d=>
    rw[e] at q
    refine X11 (R.val i d e) fun v h1 h2=>?_
    exact Y11 v h1 (q v F H (Ext.refl R.fh) h2)
noncomputable def eC(d:D):FE:=fun _=>.ok d
theorem U3{e:Expr}{v:V}{d:D}(h:PE X e (tC v))(r:∀F,Rep X.K F d v):PDE X e (eC d):=h.imp fun σ H Q z_=>by refine X21 z_ fun F τ R q=>?_;exact q v F H (Ext.refl R.fh) (r F)
theorem zn{i j}:PDE X (.Constant (.int i) j pos) (eC (.int i)):=U3 zp4 fun _=>by simp only[Rep]
theorem jz{i j}:PDE X (.Constant (.bool i) j pos) (eC (.bl i)):=U3 pe_bl fun _=>by simp only[Rep]
theorem Xj{j}:PDE X (.Constant .none j pos) (eC .non):=U3 zp3 fun _=>by simp only[Rep]
theorem vO{i j}:PDE X (.Constant (.str i) j pos) (eC (.str i)):=U3 zp1 fun _=>by simp only[Rep]
end
noncomputable def OpD(X:Cx)(g:Value→Value→Sem Value)(op:D→D→Rs D):Prop:=∃r:R2,OpR X g r ∧
 ∀F H x y dx dy Q,Same F H→Rep X.K F dx x→Rep X.K F dy y→Ok X (op dx dy) (Ev X.K F H Q)→r x y H Q
noncomputable def eOp(op:D→D→Rs D)(fa fb:FE):FE:=fun τ=>(fa τ).bind fun x=>(fb τ).bind fun y=>op x y
section
variable{X:Cx}{pos:Pos}{a b c:Expr}{fa fb fc:FE}
theorem Gh{r:R2}{op:D→D→Rs D}(hl:∀F H x y dx dy Q,Same F H→Rep X.K F dx x→Rep X.K F dy y→Ok X (op dx dy) (Ev X.K F H Q)→r x y H Q)
  (σ:St) (H:Hp) (Q:VK) (h:tE X (eOp op fa fb) σ H Q):tOp r (tE X fa) (tE X fb) σ H Q:=by
 obtain⟨F,τ,R,h⟩:=h
 refine tE.of R h.bind fun x u F1 H1 g x1 R1 r1=>?_
 refine tE.of R1 g.bind fun y v F2 H2 g2 x2 R2 r2=>?_
 exact hl F2 H2 u v x y Q R2.fh (r1.mono x2.ff) r2 (g2.imp fun d e=>e.ext (x1.trans x2))
theorem zB{o:Operator}{op:D→D→Rs D}(ho:OpD X (binaryOp o) op)(ha:PDE X a fa)(hb:PDE X b fb):PDE X (.BinOp a o b pos) (eOp op fa fb):=by
 refine X11 ho fun r h1 h2=>?_
 exact(pe_op h1 ha hb).imp (Gh h2)
theorem va{o:CmpOp}{op:D→D→Rs D}(ho:OpD X (compareOp o) op)(ha:PDE X a fa)(hb:PDE X b fb)(hm:behindInMarks o b=false):PDE X (.Compare a [o] [b] pos) (eOp op fa fb):=by
 refine X11 ho fun r h1 h2=>?_
 exact(ze6 h1 ha hb hm).imp (Gh h2)
noncomputable def tB(f:FE):FT:=fun τ=>(f τ).bind fun d=>match d with
 |.bl b=>.ok b
 |_=>.no
theorem QI{t:FE}{u:TE}(hi:∀σ H Q,tE X t σ H Q→u σ H Q)(σ:St)(H:Hp)(Q:Bool→Hp→Prop)(h:tTs X (tB t) σ H Q):zl3 u σ H Q:=by
 obtain⟨F,τ,R,h⟩:=h
 refine hi σ H _ (tE.of R h.bind fun d v F1 H1 g x R1 r=>?_)
 cases d with
 |bl k=>simp only[Rep] at r;exact Y11 k r (g F1 H1 x)
 |_=>exact g.elim
theorem yg{o:CmpOp}{op:D→D→Rs D}(ho:OpD X (compareOp o) op)(ha:PDE X a fa)(hb:PDE X b fb)(hm:behindInMarks o b=false):PDT X (.Compare a [o] [b] pos) (tB (eOp op fa fb)):=by
 refine X11 ho fun r h1 h2=>?_
 exact(VV h1 ha hb hm).imp (QI (Gh h2))
noncomputable def Yq:D→Rs Bool
 |.non=>.ok false
 |.bl b=>.ok b
 |.int i=>.ok (i != 0)
 |.str x=>if x.length≤sizeLine then .ok ((x.length:Int) != 0) else .no
 |.lst ds=>.ok (!ds.isEmpty)
 |.tup ds=>.ok (!ds.isEmpty)
 |.scr ns=>.ok (!ns.isEmpty)
 |.raw _=>.no
 |.exc _=>.no
 |.dct _ _=>.no
theorem Z5{K:Frag}{F:Hp}{ds:List D}{vs:List V}(h:Reps K F ds vs):ds.isEmpty=vs.isEmpty:=by
 have:=h.length
 cases ds <;> cases vs <;> simp_all
theorem JM{F H:Hp}{d:D}{v:V}{Q:Bool→Hp→Prop}(fh:Same F H)(r:Rep X.K F d v)(h:Ok X (Yq d) (fun b=>Q b H)):∃k,zv6 X.K v H k∧Q k H:=by
 cases d with
 |non=>simp only[Rep] at r;subst r;exact Y11 _ rfl h
 |bl b=>simp only[Rep] at r;subst r;exact Y11 _ rfl h
 |int i=>simp only[Rep] at r;subst r;exact Y11 _ rfl h
 |str x=>
  simp only[Rep] at r;subst r
  (delta Yq at h;dsimp only at h)
  by_cases z:x.length≤sizeLine
  ·rw[if_pos z] at h;exact Y11 _ ⟨z,rfl⟩ h
  ·rw[if_neg z] at h;exact h.elim
 |lst ds=>
  simp only[Rep] at r;obtain⟨a,vs,rfl,e,q⟩:=r
  refine Y11 (!vs.isEmpty) (.inl ⟨vs,SqL.of (fh _ _ e),rfl⟩) ?_
  rw[← Z5 q];exact h
 |tup ds=>
  simp only[Rep] at r;obtain⟨a,vs,rfl,e,q⟩:=r
  refine Y11 (!vs.isEmpty) (.inr (.inl ⟨vs,Same.seqT fh e,rfl⟩)) ?_
  rw[← Z5 q];exact h
 |scr ns=>
  simp only[Rep] at r;obtain⟨a,rfl,e⟩:=r
  refine Y11 (!(ns.map V.int).isEmpty) (.inl ⟨_,fh.seq e,rfl⟩) ?_
  have e2:(ns.map V.int).isEmpty=ns.isEmpty:=by cases ns <;> rfl
  rw[e2];exact h
 |raw u=>exact h.elim
 |exc c=>exact h.elim
 |dct _ _=>exact h.elim
noncomputable def wB(f:FE):FT:=fun τ=>(f τ).bind Yq
theorem wM(ha:PDE X a fa)(he:∀whole,isTrue a X.env whole=(do let v ← whole;standAt a.pos;holding [v] (truthy v)):=by intro _;rfl):PDT X a (wB fa):=
 (TC ha he).imp fun σ H Q z_=>by refine X21 z_ fun F τ R h=>?_;exact tE.of R h.bind fun d v F1 H1 g x R1 r=>JM R1.fh r (g.imp fun b e=>e F1 H1 x)
noncomputable def ZH(f g:FT):FT:=fun τ=>(f τ).bind fun b=>if b=true then g τ else .ok false
noncomputable def Ys(f g:FT):FT:=fun τ=>(f τ).bind fun b=>if b=true then .ok true else g τ
noncomputable def wJ(f:FT):FT:=fun τ=>(f τ).bind fun b=>.ok (!b)
variable{ga gb:FT}{rest:List Expr}
theorem XI(ha:PDT X a ga):PDW X (.BoolOp .And [a] pos) ga:=zd5 ha
theorem ZR(ha:PDT X a ga):PDW X (.BoolOp .Or [a] pos) ga:=Tx ha
theorem VZ(ha:PDT X a ga)(hb:PDW X (.BoolOp .And (b::rest) pos) gb):PDW X (.BoolOp .And (a::b::rest) pos) (ZH ga gb):=
 PW.imp (zo1 ha hb) fun σ H Q z_=>by
  refine X21 z_ fun F τ R h=>?_
  refine tTs.of R h.bind fun k F1 H1 g x R1=>?_
  cases k with
  |true=>rw[if_pos rfl];rw[if_pos rfl] at g;exact Y21 F1 τ R1 (g.imp fun d e=>e.ext x)
  |false=>rw[if_neg (by simp)];rw[if_neg (by simp)] at g;exact g F1 H1 x
theorem XH(ha:PDT X a ga)(hb:PDW X (.BoolOp .Or (b::rest) pos) gb):PDW X (.BoolOp .Or (a::b::rest) pos) (Ys ga gb):=
 PW.imp (zl5 ha hb) fun σ H Q z_=>by
  refine X21 z_ fun F τ R h=>?_
  refine tTs.of R h.bind fun k F1 H1 g x R1=>?_
  cases k with
  |false=>rw[if_neg (by simp)];rw[if_neg (by simp)] at g;exact Y21 F1 τ R1 (g.imp fun d e=>e.ext x)
  |true=>rw[if_pos rfl];rw[if_pos rfl] at g;exact g F1 H1 x
theorem YR{e:Expr}(h:PDW X e ga):PDT X e ga:=PW.pt h
theorem uZ(ha:PDT X a ga):PDT X (.UnaryOp .Not a pos) (wJ ga):=
 PT.imp (zo2 ha) fun σ H Q z_=>by refine X21 z_ fun F τ R h=>?_;exact tTs.of R h.bind fun k F1 H1 g x R1=>g F1 H1 x
noncomputable def eIf(g:FT)(fa fb:FE):FE:=fun τ=>(g τ).bind fun b=>if b=true then fa τ else fb τ
theorem zp6(hc:PDT X c ga)(ha:PDE X a fa)(hb:PDE X b fb):PDE X (.IfExp c a b pos) (eIf ga fa fb):=
 PE.imp (TJ hc ha hb) fun σ H Q z_=>by
  refine X21 z_ fun F τ R h=>?_
  refine tTs.of R h.bind fun k F1 H1 g x R1=>?_
  cases k with
  |true=>rw[if_pos rfl];rw[if_pos rfl] at g;exact Y21 F1 τ R1 (g.imp fun d e=>e.ext x)
  |false=>rw[if_neg (by simp)];rw[if_neg (by simp)] at g;exact Y21 F1 τ R1 (g.imp fun d e=>e.ext x)
noncomputable def MS(fa fb:FE):FE:=fun τ=>(fa τ).bind fun x=>(Yq x).bind fun b=>if b=true then fb τ else .ok x
noncomputable def eOr(fa fb:FE):FE:=fun τ=>(fa τ).bind fun x=>(Yq x).bind fun b=>if b=true then .ok x else fb τ
theorem ZV{op}(h:PDE X a fa):PDE X (.BoolOp op [a] pos) fa:=zp2 h
theorem Gc(ha:PDE X a fa)(hb:PDE X (.BoolOp .And (b::rest) pos) fb):PDE X (.BoolOp .And (a::b::rest) pos) (MS fa fb):=by
 rintro pins s σ H Q I ⟨F,τ,R,h⟩
 refine BoolOp_and (thn (ha pins s σ H _ I (tE.of R h.bind fun d v F1 H1 g x R1 r=>(⟨d,F1,g,x,R1,r⟩:∃d F1,Ok X ((Yq d).bind fun b=>if b=true then fb τ else .ok d) (Ev X.K F H Q)∧Ext F H F1 H1∧RV X.K F1 τ σ H1∧Rep X.K F1 d v))) fun v s1 z_=>?_)
 refine X22 z_ fun x H1 I1 r1 r42_=>?_;refine X23 r42_ fun d F1 g x1 R1 r=>?_
 refine thn (tru_ok pins s1 σ H1 x v (fun b H2=>H2=H1∧Ok X (if b=true then fb τ else .ok d) (Ev X.K F H Q)) I1 r1 (JM (Q:=fun b H2=>H2=H1∧Ok X (if b=true then fb τ else .ok d) (Ev X.K F H Q)) R1.fh r (g.bind.imp fun b e=>⟨rfl,e⟩))) fun k s2 z_=>?_
 refine X12 z_ fun H2 I2 e2 q=>?_
 subst e2
 cases k with
 |true=>rw[if_pos rfl] at q ⊢;exact hb pins s2 σ _ Q I2 ⟨F1,τ,R1,q.imp fun d e=>e.ext x1⟩
 |false=>rw[if_neg (by simp)] at q ⊢;exact Y22 x _ I2 r1 (q x F1 _ x1 r)
theorem V3(ha:PDE X a fa)(hb:PDE X (.BoolOp .Or (b::rest) pos) fb):PDE X (.BoolOp .Or (a::b::rest) pos) (eOr fa fb):=by
 rintro pins s σ H Q I ⟨F,τ,R,h⟩
 refine BoolOp_or (thn (ha pins s σ H _ I (tE.of R h.bind fun d v F1 H1 g x R1 r=>(⟨d,F1,g,x,R1,r⟩:∃d F1,Ok X ((Yq d).bind fun b=>if b=true then .ok d else fb τ) (Ev X.K F H Q)∧Ext F H F1 H1∧RV X.K F1 τ σ H1∧Rep X.K F1 d v))) fun v s1 z_=>?_)
 refine X22 z_ fun x H1 I1 r1 r43_=>?_;refine X23 r43_ fun d F1 g x1 R1 r=>?_
 refine thn (tru_ok pins s1 σ H1 x v (fun b H2=>H2=H1∧Ok X (if b=true then .ok d else fb τ) (Ev X.K F H Q)) I1 r1 (JM (Q:=fun b H2=>H2=H1∧Ok X (if b=true then .ok d else fb τ) (Ev X.K F H Q)) R1.fh r (g.bind.imp fun b e=>⟨rfl,e⟩))) fun k s2 z_=>?_
 refine X12 z_ fun H2 I2 e2 q=>?_
 subst e2
 cases k with
 |false=>rw[if_neg (by simp)] at q ⊢;exact hb pins s2 σ _ Q I2 ⟨F1,τ,R1,q.imp fun d e=>e.ext x1⟩
 |true=>rw[if_pos rfl] at q ⊢;exact Y22 x _ I2 r1 (q x F1 _ x1 r)
end
section
variable{X:Cx}{pos:Pos}{e:Expr}{es:List Expr}{fe:FE}{fs:FA}
noncomputable def zi:FA:=fun _=>.ok []
noncomputable def za(f:FE)(g:FA):FA:=fun τ=>(f τ).bind fun x=>(g τ).bind fun r=>.ok (x::r)
theorem zk:PDA X [] zi:=PA.imp vb fun σ H Q z_=>by refine X21 z_ fun F τ R h=>?_;exact h [] F H (Ext.refl R.fh) Reps.nil
theorem zc(ha:PDE X e fe)(hr:PDA X es fs)(hs:starEach (e::es) X.env=(false,eval e X.env)::starEach es X.env:=by rfl):PDA X (e::es) (za fe fs):=
 PA.imp (xD ha hr hs) fun σ H Q ⟨F,τ,R,h⟩=>tE.of R h.bind fun x v F1 H1 g x1 R1 r1=>tAs.of R1 g.bind fun ys vs F2 H2 g2 x2 R2 r2=>
  g2 (v::vs) F2 H2 (x1.trans x2) (Reps.cons (r1.mono x2.ff) r2)
noncomputable def v7(f:FA):FE:=fun τ=>(f τ).bind fun ds=>if ds.length≤sizeLine then .ok (.tup ds) else .no
noncomputable def jf(f:FA):FE:=fun τ=>(f τ).bind fun ds=>if ds.length≤sizeLine then .ok (.lst ds) else .no
theorem yG{X:Cx}{α:Type}{c:Prop}[Decidable c]{a:α}{P:α→Prop}(h:Ok X (if c then .ok a else .no) P):c∧P a:=by
 by_cases z:c
 ·rw[if_pos z] at h;exact⟨z,h⟩
 ·rw[if_neg z] at h;exact h.elim
theorem u0{x1}(h:PDA X es fs):PDE X (.Tuple es x1 pos) (v7 fs):=
 PE.imp (zp0 h) fun σ H Q z_=>by
  refine X21 z_ fun F τ R hq=>?_
  refine tAs.of R hq.bind fun ds vs F1 H1 g x R1 r=>?_
  obtain⟨z,g⟩:=yG g
  refine⟨by rw[← r.length];exact z,fun p hp=>g (.ref p) _ _ (x.trans (Ext.new R1.fh hp)) ?_⟩
  simp only[Rep]
  exact Y22 p vs rfl (SqT.of zp) (r.mono (yq (zF R1.fh hp)))
theorem u3(h:PDA X es fs):PDE X (.List es pos) (jf fs):=
 PE.imp (J2 h) fun σ H Q z_=>by
  refine X21 z_ fun F τ R hq=>?_
  refine tAs.of R hq.bind fun ds vs F1 H1 g x R1 r=>?_
  obtain⟨z,g⟩:=yG g
  refine⟨by rw[← r.length];exact z,fun p hp=>g (.ref p) _ _ (x.trans (Ext.new R1.fh hp)) ?_⟩
  simp only[Rep]
  exact Y22 p vs rfl zp (r.mono (yq (zF R1.fh hp)))
end
inductive Fl where
 | nx (τ:DS) | rt (d:D) | bk (τ:DS) | ct (τ:DS) | ex (c:Str) | no
 | rs (c:Str) (τ:DS)
 | ro (d:D) (τ:DS)
 | rb (i:Nat) (τ:DS)
noncomputable def Nw(X:Cx)(H:Hp)(b:Addr):Prop:=H b=none∧X.s₀.heap.get? b=none∧∀p∈X.pn,p.1≠b
noncomputable def ExcAt(X:Cx)(H:Hp)(h:Heap)(a:Addr)(cls:Value):Prop:=Nw X H a∧∃oe vs,h.get? a=some oe∧oe.cls=cls∧oe.dict=none∧oe.data=.fields vs ∧
 (vs[1]?=some .none∨∃T oT ts fl,vs[1]?=some (.ref T)∧Nw X H T∧T≠a∧h.get? T=some oT∧oT.data=.fields ts∧ts[3]?=some fl)∧vs[2]?=some .none
noncomputable def XA(X:Cx)(c:Str)(σ:St)(H:Hp):Prop:=∀s a cls,nsIn X.K mainGlobals c=some (some cls)→Inv X [] σ H s→ExcAt X H s.heap a cls→X.xe (.ref a) s
noncomputable abbrev FS:=DS→Fl
noncomputable def Post(X:Cx)(B Z F:Hp)(E:WT):Fl→Prop
 |.nx τ=>∀σ F' H',Same F F'→RS X.K B Z F' τ σ H'→E.nx σ H'
 |.bk τ=>∀σ F' H',Same F F'→RS X.K B Z F' τ σ H'→E.bk σ H'
 |.ct τ=>∀σ F' H',Same F F'→RS X.K B Z F' τ σ H'→E.ct σ H'
 |.rt d=>∀v F' H',Ext Z B F' H'→Rep X.K F' d v→E.rt v H'
 |.ex c=>Xob X c
 |.no=>False
 |.rs c τ=>∀σ F' H',Same F F'→RS X.K B Z F' τ σ H'→XA X c σ H'
 |.ro d τ=>∀v σ F' H',Same F F'→RS X.K B Z F' τ σ H'→Rep X.K F' d v→E.rt v H'
 |.rb i τ=>∀v σ F' H',Same F F'→RS X.K B Z F' τ σ H'→σ[i]?=some (some v)→E.rt v H'
theorem Post.same{X:Cx}{B Z F F1:Hp}{E:WT}{r:Fl}(h:Post X B Z F E r)(f:Same F F1):Post X B Z F1 E r:=by
 cases r with
 |nx τ=>exact fun σ F' H' g R=>h σ F' H' (f.trans g) R
 |bk τ=>exact fun σ F' H' g R=>h σ F' H' (f.trans g) R
 |ct τ=>exact fun σ F' H' g R=>h σ F' H' (f.trans g) R
 |rt d=>exact h
 |ex c=>exact h
 |no=>exact h
 |rs c τ=>exact fun σ F' H' g R=>h σ F' H' (f.trans g) R
 |ro d τ=>exact fun v σ F' H' g R r=>h v σ F' H' (f.trans g) R r
 |rb i τ=>exact fun v σ F' H' g R r=>h v σ F' H' (f.trans g) R r
noncomputable def tS(X:Cx)(f:FS):TS:=fun E σ H=>∃B Z F τ,RS X.K B Z F τ σ H∧Post X B Z F E (f τ)
noncomputable def PDS(X:Cx)(st:Stmt)(f:FS):Prop:=PS X st (tS X f)
noncomputable def uc(X:Cx)(st:List Stmt)(f:FS):Prop:=PSs X st (tS X f)
noncomputable def Fl.of{α:Type}(r:Rs α)(k:α→Fl):Fl:=match r with
 |.ok a=>k a
 |.ex c=>.ex c
 |.no=>.no
@[simp] theorem Fl.of_ok{α:Type}(a:α)(k:α→Fl):Fl.of (.ok a) k=k a:=rfl
theorem Post.of{X:Cx}{B Z F:Hp}{E:WT}{α:Type}{r:Rs α}{k:α→Fl}(h:Post X B Z F E (Fl.of r k)):Ok X r fun a=>Post X B Z F E (k a):=by
 cases r <;> exact h
section
variable{X:Cx}{pos:Pos}{e:Expr}{es:List Expr}{fe:FE}{fs:FA}{st:Stmt}{rest:List Stmt}{f g:FS}{c:Expr}{gc:FT}
noncomputable def yf:FS:=fun τ=>.nx τ
noncomputable def zI(f g:FS):FS:=fun τ=>match f τ with
 |.nx τ'=>g τ'
 |r=>r
theorem zY:uc X [] yf:=PSs.imp zd8 fun E σ H z_=>by refine X41 z_ fun B Z F τ R h=>?_;exact h σ F H (Same.refl F) R
theorem zq(h:PDS X st f):uc X [st] f:=zd7 h
theorem zm(h1:PDS X st f)(h2:uc X rest g):uc X (st::rest) (zI f g):=
 PSs.imp (ZP h1 h2) fun E σ H z_=>by
  refine X41 z_ fun B Z F τ R h=>?_
  refine Y41 B Z F τ R ?_
  unfold zI at h
  cases q:f τ with
  |nx τ'=>rw[q] at h;exact fun σ' F' H' ff R'=>⟨B,Z,F',τ',R',Post.same h ff⟩
  |rt d=>rw[q] at h;exact h
  |bk d=>rw[q] at h;exact h
  |ct d=>rw[q] at h;exact h
  |ex d=>rw[q] at h;exact h
  |no=>rw[q] at h;exact h
  |rs c d=>rw[q] at h;exact h
  |ro c d=>rw[q] at h;exact h
  |rb c d=>rw[q] at h;exact h
noncomputable def JZ:FS:=fun τ=>.bk τ
theorem Mg:PDS X (.Break pos) JZ:=PS.imp TF fun E σ H z_=>by refine X41 z_ fun B Z F τ R h=>?_;exact h σ F H (Same.refl F) R
noncomputable def sNo:FS:=fun _=>.no
theorem jU:PDS X st sNo:=PS.imp TD fun E σ H z_=>by refine X41 z_ fun B Z F τ R h=>?_;exact h
noncomputable def xb(fe:FE):FS:=fun τ=>Fl.of (fe τ) fun d=>.rt d
theorem tE.at{B Z F H:Hp}{τ:DS}{σ:St}{Q:VK}{G:D→Prop}(R:RS X.K B Z F τ σ H)(h:Ok X (fe τ) G)
  (k:∀d v F1 H1,G d→Ext F H F1 H1→RS X.K B Z F1 τ σ H1→Rep X.K F1 d v→Q v H1):tE X fe σ H Q:=
 tE.of R.rv h fun d v F1 H1 g x _ r=>k d v F1 H1 g x (R.ext x) r
theorem zP(he:PDE X e fe):PDS X (.Return (some e) pos) (xb fe):=
 PS.imp (VX he) fun E σ H z_=>by refine X41 z_ fun B Z F τ R h=>?_;exact tE.at R h.of fun d v F1 H1 g x R1 r=>g v F1 H1 R1.out r
noncomputable def sIf(gc:FT)(f g:FS):FS:=fun τ=>Fl.of (gc τ) fun b=>if b=true then f τ else g τ
theorem y8{a b:List Stmt}(hc:PDT X c gc)(ha:uc X a f)(hb:uc X b g):PDS X (.If c a b pos) (sIf gc f g):=
 PS.imp (zl6 hc ha hb) fun E σ H z_=>by
  refine X41 z_ fun B Z F τ R h=>?_
  refine tTs.of R.rv h.of fun k F1 H1 q x _=>?_
  cases k with
  |true=>rw[if_pos rfl] at q ⊢;exact Y41 B Z F1 τ (R.ext x) (q.same x.ff)
  |false=>rw[if_neg (by simp)] at q ⊢;exact Y41 B Z F1 τ (R.ext x) (q.same x.ff)
theorem RV.set{K:Frag}{F H:Hp}{τ:DS}{σ:St}{i:Nat}{d:D}{v:V}(R:RV K F τ σ H)(r:Rep K F d v):RV K F (τ.set i (some (.val d))) (σ.set i (some v)) H:=by
 refine⟨R.fh,by simp[R.len],fun j e h=>?_,fun j es h=>?_,fun j k ds es a hjk h1 h2 h3 h4=>?_,?_,?_⟩
 ·by_cases hij:i=j
  ·subst hij
   have hlt:i<τ.length:=by
    rcases Nat.lt_or_ge i τ.length with z|z
    ·exact z
    ·rw[List.getElem?_eq_none_iff.mpr (by simpa using z)] at h;nomatch h
   rw[List.getElem?_set_self hlt] at h
   replace h:=FD.Sl.val.inj (Option.some.inj (Option.some.inj h));subst h
   exact Y11 v (by rw[List.getElem?_set_self (by rw[← R.len];exact hlt)]) r
  ·rw[List.getElem?_set_ne hij] at h ⊢
   exact R.val j e h
 ·by_cases hij:i=j
  ·subst hij
   rw[List.getElem?_set] at h
   simp only[if_true] at h
   split at h <;> cases h
  ·rw[List.getElem?_set_ne hij] at h ⊢
   exact R.own j es h
 ·have n1:i≠j:=fun z=>by
   subst z
   rw[List.getElem?_set] at h1
   simp only[if_true] at h1
   split at h1 <;> cases h1
  have n2:i≠k:=fun z=>by
   subst z
   rw[List.getElem?_set] at h2
   simp only[if_true] at h2
   split at h2 <;> cases h2
  rw[List.getElem?_set_ne n1] at h1 h3
  rw[List.getElem?_set_ne n2] at h2 h4
  exact R.dis j k ds es a hjk h1 h2 h3 h4
 ·exact R.tt
 ·exact R.ob.put rfl fun _ _ z=>by nomatch z
theorem RS.set{K:Frag}{B Z F H:Hp}{τ:DS}{σ:St}{i:Nat}{d:D}{v:V}(R:RS K B Z F τ σ H)(r:Rep K F d v):RS K B Z F (τ.set i (some (.val d))) (σ.set i (some v)) H:=
 ⟨R.rv.set r,R.bh,R.zf,R.nb,fun j ds a h1 h2=>by
  have n1:i≠j:=fun z=>by
   subst z
   rw[List.getElem?_set] at h1
   simp only[if_true] at h1
   split at h1 <;> cases h1
  rw[List.getElem?_set_ne n1] at h1 h2
  exact R.ob j ds a h1 h2,fun j m c fs a h1 h2=>by
  obtain⟨n,h1⟩:=yV (s:=some (.val d)) rfl rfl h1
  rw[List.getElem?_set_ne n] at h2
  exact R.oo j m c fs a h1 h2,fun a0 dx b1 b2 j m c fs h=>by
  obtain⟨n,h⟩:=yV (s:=some (.val d)) rfl rfl h
  rw[List.getElem?_set_ne n]
  exact R.sf a0 dx b1 b2 j m c fs h,fun j c fs a h1 h2=>by
  obtain⟨n,h1⟩:=yV (s:=some (.val d)) rfl rfl h1
  rw[List.getElem?_set_ne n] at h2
  exact R.ro j c fs a h1 h2⟩
noncomputable def yQ(i:Nat)(fe:FE):FS:=fun τ=>Fl.of (fe τ) fun d=>.nx (τ.set i (some (.val d)))
theorem yh{i:Nat}{x:Str}{pos':Pos}(hN:X.N.Nodup)(hi:X.N[i]?=some x)(hx:Loc X.env.scope x)(he:PDE X e fe)(hs:swapsWith e (some (.Name x pos')) pos.line X.env=pure false:=by rfl)(hf:X.fn x=true∨X.env.scope.names.lookup x=some .local:=by first|exact .inl rfl|exact .inr rfl|assumption) :
  PDS X (.Assign [.Name x pos'] e pos) (yQ i fe):=
 PS.imp (VW hN hi hx he hs hf) fun E σ H z_=>by refine X41 z_ fun B Z F τ R h=>?_;exact tE.at R h.of fun d v F1 H1 g x R1 r=>g _ F1 H1 x.ff (R1.set r)
noncomputable def tFr(X:Cx)(f:FA):TE:=fun σ H Q=>∃F τ,RV X.K F τ σ H∧Ok X (f τ) fun ds=>∀p vs F' H',Ext F H F' H'→H' p=none→Reps X.K F' ds vs→Q (.ref p) (upd H' p (.lst vs))
noncomputable def PDF(X:Cx)(e:Expr)(f:FA):Prop:=PE X e (tFr X f)
theorem V2(h:PDA X es fs):PDF X (.List es pos) (fun τ=>(fs τ).bind fun ds=>if ds.length≤sizeLine then .ok ds else .no):=
 PE.imp (J2 h) fun σ H Q z_=>by
  refine X21 z_ fun F τ R hq=>?_
  refine tAs.of R hq.bind fun ds vs F1 H1 g x R1 r=>?_
  obtain⟨z,g⟩:=yG g
  exact⟨by rw[← r.length];exact z,fun p hp=>g p vs F1 H1 x hp r⟩
theorem jy{ff:FA}(h:PDF X e ff):PDE X e (fun τ=>(ff τ).bind fun ds=>.ok (.lst ds)):=
 PE.imp h fun σ H Q ⟨F,τ,R,hq⟩=>⟨F,τ,R,hq.bind.imp fun ds g p vs F1 H1 x hp r=>by
  refine g (.ref p) _ _ (x.trans (Ext.new x.fh hp)) ?_
  simp only[Rep]
  exact⟨p,vs,rfl,zp,r.mono (yq (zF x.fh hp))⟩⟩
noncomputable def uG(i:Nat)(ff:FA):FS:=fun τ=>Fl.of (ff τ) fun ds=>.nx (τ.set i (some (.own ds)))
theorem _root_.tJ_{a b:Addr}(h:some (some (L2.V.ref a))=some (some (L2.V.ref b))):b=a:=(L2.V.ref.inj (Option.some.inj (Option.some.inj h))).symm
theorem RV.setO{K:Frag}{F H:Hp}{τ:DS}{σ:St}{i:Nat}{p:Addr}{ds:List D}{vs:List V}(R:RV K F τ σ H)(hp:H p=none)(r:Reps K F ds vs):RV K F (τ.set i (some (.own ds))) (σ.set i (some (.ref p))) (upd H p (.lst vs)):=by
 have nofr:=zF R.fh hp
 have hlt:∀{o:Sl},(τ.set i (some (.own ds)))[i]?=some (some o)→i<τ.length:=fun {o} h=>by
  rcases Nat.lt_or_ge i τ.length with z|z
  ·exact z
  ·rw[List.getElem?_eq_none_iff.mpr (by simpa using z)] at h;nomatch h
 refine⟨R.fh.trans (yq hp),by simp[R.len],fun j e h=>?_,fun j es h=>?_,fun j k es es' a hjk h1 h2 h3 h4=>?_,?_,?_⟩
 ·by_cases hij:i=j
  ·subst hij
   rw[List.getElem?_set_self (hlt h)] at h;nomatch h
  ·rw[List.getElem?_set_ne hij] at h ⊢
   exact R.val j e h
 ·by_cases hij:i=j
  ·subst hij
   have l:=hlt h
   rw[List.getElem?_set_self l] at h
   replace h:=FD.Sl.own.inj (Option.some.inj (Option.some.inj h));subst h
   exact⟨p,vs,by rw[List.getElem?_set_self (by rw[← R.len];exact l)],zp,nofr,r⟩
  ·rw[List.getElem?_set_ne hij] at h ⊢
   refine X23 (R.own j es h) fun a ws q1 q2 q3 q4=>?_
   exact⟨a,ws,q1,by rw[zj (zC q2 hp)];exact q2,q3,q4⟩
 ·by_cases n1:i=j
  ·subst n1
   rw[List.getElem?_set_ne hjk] at h2 h4
   refine X23 (R.own k es' h2) fun a' ws q1 q2 q3 q4=>?_
   rw[q1] at h4;replace h4:=tJ_ h4;subst h4
   have l:=hlt h1
   rw[List.getElem?_set_self (by rw[← R.len];exact l)] at h3
   replace h3:=tI_ h3;subst h3
   rw[hp] at q2;nomatch q2
  ·by_cases n2:i=k
   ·subst n2
    rw[List.getElem?_set_ne (Ne.symm hjk)] at h1 h3
    refine X23 (R.own j es h1) fun a' ws q1 q2 q3 q4=>?_
    rw[q1] at h3;replace h3:=tJ_ h3;subst h3
    have l:=hlt h2
    rw[List.getElem?_set_self (by rw[← R.len];exact l)] at h4
    replace h4:=tI_ h4;subst h4
    rw[hp] at q2;nomatch q2
   ·rw[List.getElem?_set_ne n1] at h1 h3
    rw[List.getElem?_set_ne n2] at h2 h4
    exact R.dis j k es es' a hjk h1 h2 h3 h4
 ·exact R.tt.step (fun _ _ e=>.inl e) (fun b o e _=>by rw[zj (zC e hp)];exact e) (wv fun _ z=>nomatch z)
 ·have o1:ObsOk K F (τ.set i (some (.own ds))) (σ.set i (some (.ref p))) H:=R.ob.put rfl fun _ l _ z=>by
   replace z:=L2.V.ref.inj (Option.some.inj z);subst z;exact R.ob.fresh hp
  exact o1.updL (.inl hp) (o1.fresh hp)
theorem RS.setO{K:Frag}{B Z F H:Hp}{τ:DS}{σ:St}{i:Nat}{p:Addr}{ds:List D}{vs:List V}(R:RS K B Z F τ σ H)(hp:H p=none)(r:Reps K F ds vs):RS K B Z F (τ.set i (some (.own ds))) (σ.set i (some (.ref p))) (upd H p (.lst vs)):=
 ⟨R.rv.setO hp r,R.bh.trans (.of (yq hp)),R.zf,R.nb,fun j es a h1 h2=>by
  by_cases n1:i=j
  ·subst n1
   have l:i<τ.length:=by
    rcases Nat.lt_or_ge i τ.length with z|z
    ·exact z
    ·rw[List.getElem?_eq_none_iff.mpr (by simpa using z)] at h1;nomatch h1
   rw[List.getElem?_set_self (by rw[← R.rv.len];exact l)] at h2
   replace h2:=tI_ h2;subst h2
   exact xm R.bh hp
  ·rw[List.getElem?_set_ne n1] at h1 h2
   exact R.ob j es a h1 h2,fun j m c fs a h1 h2=>by
  obtain⟨n,h1⟩:=yV (s:=some (.own ds)) rfl rfl h1
  rw[List.getElem?_set_ne n] at h2
  rw[R.rv.ob.lof (.inl ⟨m,fs,h1⟩) h2 (.inl hp) (R.rv.ob.fresh hp j c a (.inl ⟨m,fs,h1⟩) h2)]
  exact R.oo j m c fs a h1 h2,fun a0 dx b1 b2 j m c fs h=>by
  obtain⟨n,h⟩:=yV (s:=some (.own ds)) rfl rfl h
  rw[List.getElem?_set_ne n]
  exact R.sf a0 dx b1 b2 j m c fs h,fun j c fs a h1 h2=>by
  obtain⟨n,h1⟩:=yV (s:=some (.own ds)) rfl rfl h1
  rw[List.getElem?_set_ne n] at h2
  exact R.ro j c fs a h1 h2⟩
theorem XJ{i:Nat}{x:Str}{pos':Pos}{ff:FA}(hN:X.N.Nodup)(hi:X.N[i]?=some x)(hx:Loc X.env.scope x)(he:PDF X e ff)(hs:swapsWith e (some (.Name x pos')) pos.line X.env=pure false:=by rfl)(hf:X.fn x=true∨X.env.scope.names.lookup x=some .local:=by first|exact .inl rfl|exact .inr rfl|assumption) :
  PDS X (.Assign [.Name x pos'] e pos) (uG i ff):=
 PS.imp (VW hN hi hx he hs hf) fun E σ H z_=>by refine X41 z_ fun B Z F τ R h=>?_;exact Y21 F τ R.rv (h.of.imp fun ds g p vs F1 H1 x hp r=>g _ F1 _ x.ff ((R.ext x).setO hp r))
theorem RV.own_upd{K:Frag}{F H:Hp}{τ:DS}{σ:St}{i:Nat}{p:Addr}{ds es:List D}{ws:List V}(R:RV K F τ σ H)(h:τ[i]?=some (some (.own ds)))(hp:σ[i]?=some (some (.ref p)))(r:Reps K F es ws) :
  RV K F (τ.set i (some (.own es))) σ (upd H p (.lst ws)):=by
 refine X23 (R.own i ds h) fun a vs q1 q2 q3 q4=>?_
 rw[q1] at hp;replace hp:=tJ_ hp;subst hp
 have l:i<τ.length:=(List.getElem?_eq_some_iff.mp h).1
 refine⟨fun b o e=>?_,by simp[R.len],fun j e h'=>?_,fun j es' h'=>?_,fun j k e1 e2 b hjk h1 h2 h3 h4=>?_,?_,?_⟩
 ·have n:b≠p:=fun z=>by subst z;rw[q3] at e;nomatch e
  rw[zj n];exact R.fh b o e
 ·by_cases hij:i=j
  ·subst hij;rw[List.getElem?_set_self l] at h';nomatch h'
  ·rw[List.getElem?_set_ne hij] at h';exact R.val j e h'
 ·by_cases hij:i=j
  ·subst hij
   rw[List.getElem?_set_self l] at h';replace h':=FD.Sl.own.inj (Option.some.inj (Option.some.inj h'));subst h'
   exact⟨p,ws,q1,zp,q3,r⟩
  ·rw[List.getElem?_set_ne hij] at h'
   refine X23 (R.own j es' h') fun a' vs' z1 z2 z3 z4=>?_
   have n:a'≠p:=fun z=>by subst z;exact R.dis i j ds es' a' hij h h' q1 z1
   exact⟨a',vs',z1,by rw[zj n];exact z2,z3,z4⟩
 ·have:∀{m:Nat} {e:List D},(τ.set i (some (.own es)))[m]?=some (some (.own e))→∃e',τ[m]?=some (some (.own e')):=fun {m e} z=>by
   by_cases him:i=m
   ·subst him;exact⟨ds,h⟩
   ·rw[List.getElem?_set_ne him] at z;exact⟨e,z⟩
  obtain⟨x1,y1⟩:=this h1
  obtain⟨x2,y2⟩:=this h2
  exact R.dis j k x1 x2 b hjk y1 y2 h3 h4
 ·exact R.tt.step (fun _ _ e=>.inl e) (fun b o e n=>by
   have:b≠p:=fun z=>by subst z;rw[q2] at e;replace e:=sI_ e;subst e;exact n _ rfl
   rw[zj this];exact e) (wv fun _ z=>nomatch z)
 ·exact(R.ob.updL (.inr ⟨vs,q2⟩) fun j c a g1 g2 hl=>R.ob.lo j i c ds a p g1 h g2 q1 hl).putS h
theorem RS.own_upd{K:Frag}{B Z F H:Hp}{τ:DS}{σ:St}{i:Nat}{p:Addr}{ds es:List D}{ws:List V}(R:RS K B Z F τ σ H)(h:τ[i]?=some (some (.own ds)))(hp:σ[i]?=some (some (.ref p)))(r:Reps K F es ws) :
  RS K B Z F (τ.set i (some (.own es))) σ (upd H p (.lst ws)):=by
 have hb:=R.ob i ds p h hp
 refine⟨R.rv.own_upd h hp r,fun b o e=>?_,R.zf,R.nb,fun j e a h1 h2=>?_,fun j m c fs a h1 h2=>?_,fun a0 dx b1 b2 j m c fs h=>R.sf a0 dx b1 b2 j m c fs (yV (s:=some (.own es)) rfl rfl h).2,fun j c fs a h1 h2=>R.ro j c fs a (yV (s:=some (.own es)) rfl rfl h1).2 h2⟩
 ·have n:b≠p:=fun z=>by subst z;rw[hb] at e;nomatch e
  rw[zj n];exact R.bh b o e
 ·by_cases him:i=j
  ·subst him;exact R.ob i ds a h h2
  ·rw[List.getElem?_set_ne him] at h1;exact R.ob j e a h1 h2
 ·have h1:=(yV (s:=some (.own es)) rfl rfl h1).2
  refine X22 (R.rv.own i ds h) fun p' vs q1 q2 _=>?_
  rw[q1] at hp;replace hp:=tJ_ hp;subst hp
  rw[R.rv.ob.lof (.inl ⟨m,fs,h1⟩) h2 (.inr ⟨vs,q2⟩) fun z=>R.rv.ob.lo j i c ds a _ (.inl ⟨m,fs,h1⟩) h h2 q1 z]
  exact R.oo j m c fs a h1 h2
noncomputable def uk(τ:DS)(i:Nat):Rs (List D):=match τ[i]? with
 | some (some (.own ds))=>.ok ds
 |_=>.no
theorem jA{τ:DS}{i:Nat}{P:List D→Prop}(h:Ok X (uk τ i) P):∃ds,τ[i]?=some (some (.own ds))∧P ds:=by
 unfold uk at h
 cases q:τ[i]? with
 |none=>rw[q] at h;exact h.elim
 |some o=>
  cases o with
  |none=>rw[q] at h;exact h.elim
  |some sl=>
   cases sl with
   |val d=>rw[q] at h;exact h.elim
   |obj n c fs=>rw[q] at h;exact h.elim
   |obr c fs=>rw[q] at h;exact h.elim
   |own ds=>rw[q] at h;exact Y11 ds rfl h
noncomputable def WB(i:Nat)(fe:FE):FS:=fun τ=>Fl.of (uk τ i) fun ds=>Fl.of (fe τ) fun d=>if ds.length<sizeLine then .nx (τ.set i (some (.own (ds++[d])))) else .no
theorem V1{i:Nat}{x:Str}{p1 apos cpos:Pos}(hx:PE X (.Name x p1) (xf i))(he:PDE X e fe)
  (hfew:((backTo cpos (starEach [e] X.env)).all (fun x=>!x.1)&&(backToKw cpos (keywordEach [] X.env)).all (fun x=>x.1.isSome)
   && decide ([e].length+([]:List Keyword).length+(if ([]:List Keyword).isEmpty then 0 else 1)<30))=true:=by rfl)
  (hline:(apos.endLine==cpos.line)=true:=by rfl) (hs:starEach [e] X.env=[(false,eval e X.env)]:=by rfl) (hplain:(backTo cpos (starEach [] X.env)).any (·.1)=false:=by rfl)
  (hbase:attributeBase (.Name x p1) "append" X.env (eval (.Name x p1) X.env)=eval (.Name x p1) X.env:=by rfl)
  (hsw:swapsWith (.Call (.Attribute (.Name x p1) "append" apos) [e] [] cpos) none pos.line X.env=pure false:=by rfl) :
  PDS X (.Expr (.Call (.Attribute (.Name x p1) "append" apos) [e] [] cpos) pos) (WB i fe):=
 PS.imp (jT (Q5 PySem.F.plainAttrs_list PySem.F.slot_list_append PySem.F.type_list_append uL hx (xD he vb (by rw[hs];rfl)) hbase hfew hline (by rw[hs];rfl) hplain) hsw) fun E σ H z_=>by
  refine X41 z_ fun B Z F τ R h=>?_
  refine X11 (jA (X:=X) (Post.of h)) fun ds h1 h2=>?_
  refine X23 (R.rv.own i ds h1) fun a vs q1 q2 q3 q4=>?_
  refine Y12 _ q1 (.inl ⟨rfl,vs,SqL.of q2⟩) ?_
  refine tE.at R h2.of fun d v F1 H1 g x R1 r=>?_
  by_cases z:ds.length<sizeLine
  ·rw[if_pos z] at g
   refine⟨a,vs,v,rfl,rfl,x.hh _ _ q2,by rw[← q4.length];exact z,?_⟩
   exact g _ F1 _ x.ff (R1.own_upd h1 q1 ((q4.mono x.ff).append (Reps.cons r Reps.nil)))
  ·rw[if_neg z] at g;exact g.elim
noncomputable def G9(i:Nat)(fi fe:FE):FS:=fun τ=>Fl.of (fe τ) fun d=>Fl.of (uk τ i) fun ds=>Fl.of (fi τ) fun k=>match k with
 |.int k=>match ixN ds.length k with
  |some j=>.nx (τ.set i (some (.own (ds.set j d))))
  |none=>.no
 |_=>.no
theorem ze7{i:Nat}{x:Str}{p1 spos:Pos}{ix:Expr}{fi:FE}(hx:PE X (.Name x p1) (xf i))(hi:PDE X ix fi)(he:PDE X e fe)
  (ha:∀v,assign (.Subscript (.Name x p1) ix spos) X.env v=(do
   let ov ← holding [v] (eval (.Name x p1) X.env)
   let iv ← holding [v,ov] (eval ix X.env)
   standAt spos
   holding [v,ov,iv] (setItem ov iv v)
   release [v,ov,iv] []):=by intro _;rfl)
  (hs:swapsWithSole [.Subscript (.Name x p1) ix spos] e pos.line X.env=pure false:=by rfl) (hw:swappedStores [.Subscript (.Name x p1) ix spos] e X.env=pure none:=by rfl)
  (h1:(assignEach [.Subscript (.Name x p1) ix spos] X.env).map (·.2)=[assign (.Subscript (.Name x p1) ix spos) X.env]:=by rfl) :
  PDS X (.Assign [.Subscript (.Name x p1) ix spos] e pos) (G9 i fi fe):=
 PS.imp (zo4 he (zo8 hx hi Tn ha) hs hw h1) fun E σ H z_=>by
  refine X41 z_ fun B Z F τ R h=>?_
  refine tE.at R h.of fun d v F1 H1 g x R1 r=>?_
  refine X11 (jA (X:=X) (Post.of g)) fun ds h1 h2=>?_
  refine X23 (R1.rv.own i ds h1) fun a vs q1 q2 q3 q4=>?_
  refine Y11 _ q1 ?_
  refine tE.at R1 h2.of fun k w F2 H2 g2 x2 R2 r2=>?_
  cases k with
  |int k=>
   simp only[Rep] at r2
   simp only at g2
   cases q:ixN ds.length k with
   |none=>rw[q] at g2;exact g2.elim
   |some j=>
    rw[q] at g2
    refine⟨a,vs,k,j,rfl,r2,x2.hh _ _ q2,by rw[← q4.length];exact q,?_⟩
    exact g2 _ F2 _ (x.ff.trans x2.ff) (R2.own_upd h1 q1 (Reps.set (r.mono x2.ff) j (q4.mono x2.ff)))
  |_=>exact g2.elim
noncomputable def ji(i:Nat):FS:=fun τ=>Fl.of (uk τ i) fun ds=>.rt (.lst ds)
theorem ZT{i:Nat}{x:Str}{p1:Pos}(hx:PE X (.Name x p1) (xf i)):PDS X (.Return (some (.Name x p1)) pos) (ji i):=
 PS.imp (VX hx) fun E σ H z_=>by
  refine X41 z_ fun B Z F τ R h=>?_
  refine X11 (jA (X:=X) (Post.of h)) fun ds h1 h2=>?_
  refine X23 (R.rv.own i ds h1) fun a vs q1 q2 q3 q4=>?_
  have hb:=R.ob i ds a h1 q1
  refine Y11 _ q1 (h2 (.ref a) (upd F a (.lst vs)) H ⟨?_,R.bh,fun b o e=>?_,fun b o e=>?_,fun _=>R.rv.tt.freeze q2⟩ ?_)
  ·exact R.zf.trans (yq q3)
  ·by_cases z:b=a
   ·subst z;rw[zp] at e;replace e:=sI_ e;subst e;exact q2
   ·rw[zj z] at e;exact R.rv.fh b o e
  ·by_cases z:b=a
   ·subst z;exact .inr hb
   ·rw[zj z] at e;exact R.nb b o e
  ·simp only[Rep]
   exact Y22 a vs rfl zp (q4.mono (yq q3))
noncomputable def MR(i:Nat)(fi:FE):FE:=fun τ=>(uk τ i).bind fun ds=>(fi τ).bind fun k=>match k with
 |.int k=>match atI ds k with
  |some d=>.ok d
  |none=>.no
 |_=>.no
theorem Yo{K:Frag}{F:Hp}{ds:List D}{vs:List V}{k:Int}{d:D}(r:Reps K F ds vs)(h:atI ds k=some d):∃v,atI vs k=some v∧Rep K F d v:=by
 unfold atI at h ⊢
 rw[← r.length]
 cases q:ixN ds.length k with
 |none=>rw[q] at h;cases h
 |some j=>
  rw[q] at h
  exact r.get h
theorem zf1{i:Nat}{x:Str}{p1:Pos}{ix:Expr}{fi:FE}(hx:PE X (.Name x p1) (xf i))(hi:PDE X ix fi)(hs:vU ix:=by intro _ _;rfl):PDE X (.Subscript (.Name x p1) ix pos) (MR i fi):=
 PE.imp (YQ ix_list hx hi hs) fun σ H Q z_=>by
  refine X21 z_ fun F τ R h=>?_
  refine X11 (jA (X:=X) (Ok.bind h)) fun ds h1 h2=>?_
  refine X23 (R.own i ds h1) fun a vs q1 q2 q3 q4=>?_
  refine Y11 _ q1 ?_
  refine tE.of R h2.bind fun k w F2 H2 g2 x2 R2 r2=>?_
  cases k with
  |int k=>
   simp only[Rep] at r2
   simp only at g2
   cases q:atI ds k with
   |none=>rw[q] at g2;exact g2.elim
   |some d=>
    rw[q] at g2
    refine X11 (Yo q4 q) fun v z1 z2=>?_
    exact⟨a,vs,k,v,rfl,r2,SqL.of (x2.hh _ _ q2),z1,g2 v F2 H2 x2 (z2.mono x2.ff)⟩
  |_=>exact g2.elim
noncomputable def Yg(i:Nat):FE:=fun τ=>(uk τ i).bind fun ds=>.ok (.int ds.length)
theorem XO{i:Nat}{x:Str}{p1 p:Pos}(hx:PE X (.Name x p1) (xf i))(hg:Gl X "len")(hm:X.mg "len" = none)
  (he:starEach [.Name x p1] X.env=[(false,eval (.Name x p1) X.env)]:=by rfl) (hpl:(backTo pos (starEach [] X.env)).any (·.1)=false:=by rfl):PDE X (.Call (.Name "len" p) [.Name x p1] [] pos) (Yg i):=
 PE.imp (pe_callB call_len_seq hg hm PySem.boot_len (xD hx vb (by rw[he];rfl)) (he:=by rw[he];rfl) (hpl:=hpl)) fun σ H Q z_=>by
  refine X21 z_ fun F τ R h=>?_
  refine X11 (jA (X:=X) (Ok.bind h)) fun ds h1 h2=>?_
  refine X23 (R.own i ds h1) fun a vs q1 q2 q3 q4=>?_
  refine⟨_,q1,a,vs,rfl,.inl (SqL.of q2),?_⟩
  rw[← q4.length]
  exact h2 (.int ds.length) F H (Ext.refl R.fh) (by simp only[Rep])
end
noncomputable def QG(K:Frag)(J:It)(F1:Hp)(ds:List D):Prop:=∀(i:Nat) (F H:Hp),Same F1 F→Same F H →
 (ds.length≤i→J.stop i H)∧∀d,ds[i]?=some d→J.go i H∧∀x H',J.yld i H x H'→∃F',Ext F H F' H'∧Rep K F' d x
noncomputable def tI(X:Cx)(f:FA):TI:=fun σ H R=>∃F τ,RV X.K F τ σ H∧Ok X (f τ) fun ds=>∀J F1 H1,Ext F H F1 H1→QG X.K J F1 ds→R J H1
noncomputable def PDI(X:Cx)(tg iter:Expr)(f:FA):Prop:=PI X tg iter (tI X f)
theorem _root_.L2.PI.imp{X:Cx}{tg e:Expr}{t t':TI}(h:PI X tg e t)(f:∀σ H Q,t' σ H Q→t σ H Q):PI X tg e t':=fun pins s σ H Q I q=>h pins s σ H Q I (f _ _ _ q)
section
variable{X:Cx}{pos:Pos}{e tg:Expr}{es:List Expr}{fe:FE}{fs:FA}
theorem Gx{K:Frag}{a:Addr}{F1:Hp}{ds:List D}{vs:List V}(e:SqL K F1 a vs)(r:Reps K F1 ds vs):QG K (Itl K a) F1 ds:=fun i F H f1 f2=>by
 have q:SqL K H a vs:=(f1.trans f2).seq e
 refine⟨fun h=>⟨vs,q,by rw[← r.length];exact h⟩,fun d hd=>?_⟩
 refine X11 (r.get hd) fun v h1 h2=>?_
 refine⟨⟨vs,v,q,h1⟩,fun x H' y=>?_⟩
 obtain⟨e1,y⟩:=y
 subst e1
 have h3:=y vs q
 rw[h1] at h3;replace h3:=sI_ h3;subst h3
 exact Y11 F (Ext.refl f2) (h2.mono f1)
theorem zt4{K:Frag}{a:Addr}{F1:Hp}{ds:List D}{vs:List V}(e:SqT K F1 a vs)(r:Reps K F1 ds vs):QG K (Itt K a) F1 ds:=fun i F H f1 f2=>by
 have q:SqT K H a vs:=Same.seqT (f1.trans f2) e
 refine⟨fun h=>⟨vs,q,by rw[← r.length];exact h⟩,fun d hd=>?_⟩
 refine X11 (r.get hd) fun v h1 h2=>?_
 refine⟨⟨vs,v,q,h1⟩,fun x H' y=>?_⟩
 obtain⟨e1,y⟩:=y
 subst e1
 have h3:=y vs q
 rw[h1] at h3;replace h3:=sI_ h3;subst h3
 exact Y11 F (Ext.refl f2) (h2.mono f1)
noncomputable def jr(lo:Int)(n:Nat):List D:=(List.range n).map fun (k:Nat)=>D.int (lo+k)
theorem LM{K:Frag}{F1:Hp}{lo:Int}{n:Nat}:QG K (Itr lo n) F1 (jr lo n):=fun i F H f1 f2=>by
 have hl:(jr lo n).length=n:=by simp[jr]
 refine⟨fun h=>by rw[hl] at h;exact h,fun d hd=>?_⟩
 have hi:i<n:=by have:=(List.getElem?_eq_some_iff.mp hd).1;rw[hl] at this;exact this
 refine⟨hi,fun x H' y=>?_⟩
 obtain⟨e1,y⟩:=y
 subst e1
 refine Y11 F (Ext.refl f2) ?_
 simp[jr,hi] at hd
 subst hd
 simp only[Rep];exact y
noncomputable def Qn:List D→Option Int
 |[.int j]=>some j
 |_=>none
noncomputable def WP:List D→Option (Int×Int)
 |[.int i,.int j]=>some (i,j)
 |_=>none
noncomputable def XQ:D→Option (D×D)
 |.tup [x,y]=>some (x,y)
 |_=>none
theorem GA{ds:List D}{j:Int}(h:Qn ds=some j):ds=[.int j]:=by
 unfold Qn at h;split at h <;> cases h;rfl
theorem Ui{ds:List D}{i j:Int}(h:WP ds=some (i,j)):ds=[.int i,.int j]:=by
 unfold WP at h;split at h <;> cases h;rfl
theorem T4{d x y:D}(h:XQ d=some (x,y)):d=.tup [x,y]:=by
 unfold XQ at h;split at h <;> cases h;rfl
noncomputable def vi(fs:FA):FA:=fun τ=>(fs τ).bind fun ds=>match Qn ds with
 |some j=>if -(2 ^ 62)≤j∧j<2 ^ 62 then .ok (jr 0 j.toNat) else .no
 |none=>.no
theorem wR{a:Expr}{p:Pos}(hg:Gl X "range")(hm:X.mg "range" = none)(ha:PDA X [a] fs)(hs:starEach [a] X.env=[(false,eval a X.env)]:=by rfl):PDI X tg (.Call (.Name "range" p) [a] [] pos) (vi fs):=
 PI.imp (Mf hg hm ha hs) fun σ H R z_=>by
  refine X21 z_ fun F τ Rv h=>?_
  refine tAs.of Rv h.bind fun ds vs F1 H1 g x R1 r=>?_
  cases q1:Qn ds with
  |none=>rw[q1] at g;exact g.elim
  |some j=>
   rw[q1] at g
   have e:=GA q1
   subst e
   obtain⟨v,rfl,q⟩:=r.one
   simp only[Rep] at q;subst q
   obtain⟨z,g⟩:=yG g
   exact⟨j,rfl,z.1,z.2,g _ F1 H1 x LM⟩
noncomputable def MM(fs:FA):FA:=fun τ=>(fs τ).bind fun ds=>match WP ds with
 | some (i,j)=>if (-(2 ^ 62)≤i∧i<2 ^ 62)∧-(2 ^ 62)≤j∧j<2 ^ 62 then .ok (jr i (j-i).toNat) else .no
 |none=>.no
theorem J6{a b:Expr}{p:Pos}(hg:Gl X "range")(hm:X.mg "range" = none)(ha:PDA X [a,b] fs)(hs:starEach [a,b] X.env=[(false,eval a X.env),(false,eval b X.env)]:=by rfl)(hs2:starEach [b] X.env=[(false,eval b X.env)]:=by rfl) :
  PDI X tg (.Call (.Name "range" p) [a,b] [] pos) (MM fs):=
 PI.imp (Me hg hm ha hs hs2) fun σ H R z_=>by
  refine X21 z_ fun F τ Rv h=>?_
  refine tAs.of Rv h.bind fun ds vs F1 H1 g x R1 r=>?_
  cases q1:WP ds with
  |none=>rw[q1] at g;exact g.elim
  |some ij=>
   obtain⟨i,j⟩:=ij
   rw[q1] at g
   have e:=Ui q1
   subst e
   obtain⟨v,w,rfl,q,q'⟩:=r.two
   simp only[Rep] at q q';subst q;subst q'
   obtain⟨z,g⟩:=yG g
   exact Y22 i j rfl ⟨z.1.1,z.1.2,z.2.1,z.2.2⟩ (g _ F1 H1 x LM)
noncomputable abbrev FG:=D→DS→Rs DS
noncomputable def tG(X:Cx)(set:FG):TG:=fun v σ H Q=>∃F τ d,RV X.K F τ σ H∧Rep X.K F d v∧Ok X (set d τ) fun τ'=>∀σ',RV X.K F τ' σ' H→(∀B Z,RS X.K B Z F τ σ H→RS X.K B Z F τ' σ' H)→σ'.length=σ.length→Q σ' H
noncomputable def PDG(X:Cx)(tg:Expr)(set:FG):Prop:=PG X tg (tG X set)
theorem _root_.L2.PG.imp{X:Cx}{e:Expr}{t t':TG}(h:PG X e t)(f:∀v σ H Q,t' v σ H Q→t v σ H Q):PG X e t':=fun pins s σ H v u Q I r q=>h pins s σ H v u Q I r (f _ _ _ _ q)
noncomputable def gNm(i:Nat):FG:=fun d τ=>.ok (τ.set i (some (.val d)))
theorem yB{i:Nat}{x:Str}(hN:X.N.Nodup)(hi:X.N[i]?=some x)(hx:Loc X.env.scope x)(hf:X.fn x=true∨X.env.scope.names.lookup x=some .local:=by first|exact .inl rfl|exact .inr rfl|assumption):PDG X (.Name x pos) (gNm i):=
 PG.imp (Xh hN hi hx hf) fun v σ H Q z_=>by obtain⟨F,τ,d,R,r,h⟩:=z_;exact h _ (R.set r) (fun B Z R'=>R'.set r) (by simp)
noncomputable def gPr(i j:Nat):FG:=fun d τ=>match XQ d with
 | some (x,y)=>.ok ((τ.set i (some (.val x))).set j (some (.val y)))
 |none=>.no
theorem T0{i j k:Nat}{x y:Str}{px py:Pos}(hc:X.calm=true)(hN:X.N.Nodup)(hi:X.N[i]?=some x)(hx:Loc X.env.scope x)(hj:X.N[j]?=some y)(hy:Loc X.env.scope y)
  (hf:X.fn x=true∨X.env.scope.names.lookup x=some .local:=by first|exact .inl rfl|exact .inr rfl|assumption) (hf':X.fn y=true∨X.env.scope.names.lookup y=some .local:=by first|exact .inl rfl|exact .inr rfl|assumption) :
  PDG X (.Tuple [.Name x px,.Name y py] k pos) (gPr i j):=
 PG.imp (zo7 (n:=2) hc (UT (Xh hN hi hx hf) (UT (Xh hN hj hy hf') ze3))) fun v σ H Q z_=>by
  obtain⟨F,τ,d,R,r,h⟩:=z_
  unfold gPr at h
  cases q1:XQ d with
  |none=>rw[q1] at h;exact h.elim
  |some xy=>
   obtain⟨x,y⟩:=xy
   rw[q1] at h
   have e:=T4 q1
   subst e
   simp only[Rep] at r
   obtain⟨a,vs,rfl,q,t⟩:=r
   obtain⟨v1,v2,rfl,r1,r2⟩:=t.two
   exact⟨a,_,rfl,Same.seqT R.fh q,rfl,v1,[v2],rfl,v2,[],rfl,rfl,h _ ((R.set r1).set r2) (fun B Z R'=>(R'.set r1).set r2) (by simp)⟩
noncomputable def yO(set:FG)(body:FS):List D→DS→Fl
 |[],τ=>.nx τ
 |d::r,τ=>Fl.of (set d τ) fun τ1=>match body τ1 with
  |.nx τ'=>yO set body r τ'
  |.ct τ'=>yO set body r τ'
  |.bk τ'=>.nx τ'
  |.rt d=>.rt d
  |.ro d τ'=>.ro d τ'
  |.rb d τ'=>.rb d τ'
  |.ex c=>.ex c
  |.no=>.no
  |.rs c τ'=>.rs c τ'
noncomputable def vY(fi:FA)(set:FG)(body:FS):FS:=fun τ=>Fl.of (fi τ) fun ds=>yO set body ds τ
theorem w6{iter:Expr}{body:List Stmt}{fi:FA}{set:FG}{fb:FS}(hp:PassesOwn (model X.prog X.w) X.A X.env X.xe)(hc:X.calm=true)(hi:PDI X tg iter fi)(hg:PDG X tg set)(hb:uc X body fb)
  (hs:∀x,foldedSetIterable iter X.env x=pure x:=by intro _;rfl):PDS X (.For tg iter body [] pos) (vY fi set fb):=
 PS.imp (zo3 hp hc hi hg hb hs) fun E σ H z_=>by
  refine X41 z_ fun B Z F τ R h=>?_
  refine Y21 F τ R.rv (h.of.imp fun ds g J F1 H1 x io=>?_)
  refine⟨fun i m σ H=>m=ds.length-i∧i≤ds.length∧∃F' τ',Same F1 F'∧RS X.K B Z F' τ' σ H∧Post X B Z F' E (yO set fb (ds.drop i) τ'),⟨ds.length,by simp,Nat.zero_le _,F1,τ,Same.refl _,R.ext x,g.same x.ff⟩,?_⟩
  rintro i m σ2 H2 ⟨rfl,hi,F2,τ2,f2,R2,p2⟩
  obtain⟨i1,i2⟩:=io i F2 H2 f2 R2.rv.fh
  by_cases hlt:i<ds.length
  ·have hd:ds.drop i=ds[i]::ds.drop (i+1):=List.drop_eq_getElem_cons hlt
   rw[hd] at p2
   obtain⟨go,yl⟩:=i2 ds[i] (by simp[hlt])
   refine .inr ⟨go,fun σ' H'=>∃F' τ',Same F2 F'∧RS X.K B Z F' τ' σ' H'∧Post X B Z F' E (yO set fb (ds.drop (i+1)) τ'),fun σ' H' ⟨F',τ',a,b,c⟩=>⟨ds.length-(i+1),by lia,rfl,hlt,F',τ',f2.trans a,b,c⟩,fun y H' yy=>?_⟩
   refine X11 (yl y H' yy) fun F3 x3 r3=>?_
   have R3:=R2.ext x3
   refine⟨F3,τ2,ds[i],R3.rv,r3,(Post.of p2).imp fun τ4 p4 σ4 _ R4 _=>⟨B,Z,F3,τ4,R4 B Z R3,?_⟩⟩
   cases q:fb τ4 with
   |nx τ5=>rw[q] at p4;exact fun σ' F' H' ff RR=>⟨F',τ5,x3.ff.trans ff,RR,Post.same p4 (x3.ff.trans ff)⟩
   |ct τ5=>rw[q] at p4;exact fun σ' F' H' ff RR=>⟨F',τ5,x3.ff.trans ff,RR,Post.same p4 (x3.ff.trans ff)⟩
   |bk τ5=>rw[q] at p4;exact fun σ' F' H' ff RR=>p4 σ' F' H' (x3.ff.trans ff) RR
   |rt d=>rw[q] at p4;exact p4
   |ro d τ'=>rw[q] at p4;exact fun v σ' F' H' ff RR rr=>p4 v σ' F' H' (x3.ff.trans ff) RR rr
   |rb d τ'=>rw[q] at p4;exact fun v σ' F' H' ff RR rr=>p4 v σ' F' H' (x3.ff.trans ff) RR rr
   |ex c=>rw[q] at p4;exact p4
   |no=>rw[q] at p4;exact p4
   |rs c τ5=>rw[q] at p4;exact fun σ' F' H' ff RR=>p4 σ' F' H' (x3.ff.trans ff) RR
  ·have e:i=ds.length:=by lia
   subst e
   rw[List.drop_length] at p2
   exact .inl ⟨i1 (Nat.le_refl _),p2 σ2 F2 H2 (Same.refl _) R2⟩
end
noncomputable def WL(r:Rs D):Rs D:=match r with
 |.ok d=>.ok d
 |_=>.no
noncomputable def spD(K:Frag)(n:Nat)(g:List D→Rs D):Sp:=fun vs H Q E=>vs.length=n∧∃ds F,Same F H∧TbT F H∧Reps K F ds vs∧match g ds with
 |.ok d=>Ev K F H Q d
 |_=>False
noncomputable def z0(N:Nat)(ds:List D):DS:=ds.map (fun d=>some (.val d))++List.replicate (N-ds.length) none
noncomputable def Y1:Fl→Rs D
 |.rt d=>.ok d
 |.ro d _=>.ok d
 |.nx _=>.ok .non
 |.rs c _=>.ex c
 |_=>.no
noncomputable def wE(N:Nat)(fb:FS)(ds:List D):Rs D:=Y1 (fb (z0 N ds))
theorem XC{K:Frag}{F H:Hp}{N:List Str}{ds:List D}{vs:List V}(fh:Same F H)(tt:TbT F H)(r:Reps K F ds vs):RS K H F F (z0 N.length ds) (L2.start N vs) H:=by
 have hl:=r.length
 have hval:∀(i:Nat) (o:Sl),(z0 N.length ds)[i]?=some (some o)→∃d,ds[i]?=some d∧o=.val d:=fun i o h=>by
  unfold z0 at h
  by_cases hi:i<ds.length
  ·rw[List.getElem?_append_left (by simpa using hi),List.getElem?_map] at h
   cases e:ds[i]? with
   |none=>rw[e] at h;cases h
   |some d=>rw[e] at h;cases h;exact Y11 d rfl rfl
  ·rw[List.getElem?_append_right (by simpa using hi),List.getElem?_replicate] at h
   split at h <;> cases h
 refine⟨⟨fh,?_,fun i d h=>?_,fun i es h=>?_,fun i j es es' a _ h1 _ _ _=>?_,tt,ObsOk.none fun i s h=>?_⟩,Hh.refl H,Same.refl F,fun a o e=>.inl e,fun i es a h1 _=>?_,fun i m c fs a h1 _=>?_,fun a0 dx _ _ j m c fs h1=>?_,fun j c fs a h1 _=>?_⟩
 ·simp[z0,L2.start,hl]
 ·refine X11 (hval i _ h) fun d' h1 h2=>?_
  replace h2:=FD.Sl.val.inj h2;subst h2
  refine X11 (r.get h1) fun v q1 q2=>?_
  refine Y11 v ?_ q2
  have hi:i<vs.length:=(List.getElem?_eq_some_iff.mp q1).1
  unfold L2.start
  rw[List.getElem?_append_left (by simpa using hi),List.getElem?_map,q1];rfl
 ·refine X11 (hval i _ h) fun _ _ h2=>?_;nomatch h2
 ·refine X11 (hval i _ h1) fun _ _ h2=>?_;nomatch h2
 ·cases s with
  |none=>rfl
  |some o=>refine X11 (hval i _ h) fun _ _ h2=>?_;rw[h2];rfl
 ·refine X11 (hval i _ h1) fun _ _ h2=>?_;nomatch h2
 ·refine X11 (hval i _ h1) fun _ _ h2=>?_;nomatch h2
 ·refine X11 (hval j _ h1) fun _ _ h2=>?_;nomatch h2
 ·refine X11 (hval j _ h1) fun _ _ h2=>?_;nomatch h2
section
variable{P:Program}{w:World}{K:Frag}{mg:Str→Option Value}{base:Heap}
theorem fnD{x qual:Str}{st:Stmt}{f:Addr}{fd:FuncData}{N ps:List Str}{k n:Nat}{fb:FS}(F:Fun K x qual st f fd)(S:zD N ps (zh st))(hn:ps.length=n)
  (hbody:∀(cdv:Value) (A:Around) (outer:List Env) (s:Shared) (H:Hp) (E:XK),Room k (A.deeper (envOfC qual (zh st) s.heap.objs.size f cdv)) →
   uc (jJ CX0 P w K mg base N qual (zh st) f cdv A outer s H E).nox (zx st) fb):FnOk P w K mg base CX0 (k+1) f fd ps (spD K n (wE N.length fb)):=by
 refine F.ok S (fun vs H Q E h=>by rw[hn];exact h.1) fun cdv A outer s H vs Q E hr h=>⟨_,hbody cdv A outer s H E hr,?_⟩
 obtain⟨hl,ds,Fz,fh,tt,r,h⟩:=h
 refine Y41 H Fz Fz (z0 N.length ds) (XC fh tt r) ?_
 unfold wE at h
 cases q:fb (z0 N.length ds) with
 |nx τ=>rw[q] at h;exact fun σ F' H' ff RR=>h .non F' H' RR.out (by simp only[Rep])
 |rt d=>rw[q] at h;exact fun v F' H' x rr=>h v F' H' x rr
 |ro d τ=>rw[q] at h;exact fun v σ F' H' ff RR rr=>h v F' H' RR.out rr
 |rb d τ=>rw[q] at h;exact h.elim
 |bk τ=>rw[q] at h;exact h.elim
 |ct τ=>rw[q] at h;exact h.elim
 |ex c=>rw[q] at h;exact h.elim
 |no=>rw[q] at h;exact h.elim
 |rs c τ=>rw[q] at h;exact h.elim
theorem FnD.to{CX:CXT}{f:Addr}{fd:FuncData}{ps:List Str}{k n:Nat}{g g':List D→Rs D}(F:FnOk P w K mg base CX k f fd ps (spD K n g))(h:∀ds d,ds.length=n→g' ds=.ok d→g ds=.ok d):FnOk P w K mg base CX k f fd ps (spD K n g'):=
 F.imp fun vs H Q E ⟨hl,ds,Fz,fh,tt,r,q⟩=>⟨hl,ds,Fz,fh,tt,r,by
  cases e:g' ds with
  |ok d=>rw[e] at q;rw[h ds d (by rw[r.length];exact hl) e];exact q
  |ex c=>rw[e] at q;exact q.elim
  |no=>rw[e] at q;exact q.elim⟩
end
section
variable{X:Cx}{pos:Pos}{e tg:Expr}{es:List Expr}{fe:FE}{fs:FA}
noncomputable def zv(g:List D→Rs D)(fs:FA):FE:=fun τ=>(fs τ).bind fun ds=>WL (g ds)
theorem T3{k n:Nat}{f:Addr}{fd:FuncData}{ps:List Str}{g:List D→Rs D}{x:Str}{p:Pos}(F:FnOk X.prog X.w X.K X.mg X.base CX0 k f fd ps (spD X.K n g))(hr:Room k X.A)(hg:Gl X x)(hm:X.mg x=some (.ref f))(hk:keepIn X.K (.ref f)=true)(hb:Binds X.K fd ps [])
  (ha:PDA X (e::es) fs) (hn:(e::es).length=n) (hfs:∀τ ds,fs τ=.ok ds→ds.length=(e::es).length) (hdb:(x==("__debug__" : Str))=false:=by decide) (he:starEach (e::es) X.env=(false,eval e X.env)::starEach es X.env:=by rfl) (hpl:(backTo pos (starEach es X.env)).any (·.1)=false:=by rfl) :
  PDE X (.Call (.Name x p) (e::es) [] pos) (zv g fs):=
 PE.imp (ZQ F hr hg hm hk hb .nil (E:=E0) j9 ha hdb he hpl) fun σ H Q z_=>by
  refine X21 z_ fun Fz τ R h=>?_
  have hb:=h.bind
  refine Y21 Fz τ R ?_
  cases q:fs τ with
  |no=>rw[q] at hb;exact hb
  |ex c=>rw[q] at hb;exact hb
  |ok ds=>
   rw[q] at hb
   intro vs F1 H1 x r
   rw[List.append_nil]
   refine⟨by rw[← r.length,hfs τ ds q,hn],ds,F1,x.fh,x.tt R.tt,r,?_⟩
   have hb:Ok X (WL (g ds)) (Ev X.K Fz H Q):=hb
   cases z:g ds with
   |ok d=>rw[z] at hb;exact Ev.ext hb x
   |ex c=>rw[z] at hb;exact hb.elim
   |no=>rw[z] at hb;exact hb.elim
theorem zr(τ:DS)(ds:List D)(h:zi τ=.ok ds):ds.length=0:=by cases h;rfl
theorem zg{f:FE}{g:FA}{n:Nat}(hg:∀τ ds,g τ=.ok ds→ds.length=n)(τ:DS)(ds:List D)(h:za f g τ=.ok ds):ds.length=n+1:=by
 unfold za at h
 cases q:f τ with
 |no=>rw[q] at h;cases h
 |ex c=>rw[q] at h;cases h
 |ok d=>
  rw[q] at h
  cases q2:g τ with
  |no=>rw[q2] at h;cases h
  |ex c=>rw[q2] at h;cases h
  |ok r=>rw[q2] at h;cases h;simp[hg τ r q2]
noncomputable def JJ(X:Cx)(f:Value)(g:List D→Rs D):Prop:=∃r,CallR X f r∧∀F H vs ds Q,Same F H→Reps X.K F ds vs→Ok X (g ds) (Ev X.K F H Q)→r vs H Q
noncomputable def yd(g:List D→Rs D)(fs:FA):FE:=fun τ=>(fs τ).bind g
theorem zL{id:String}{x:Str}{p:Pos}{g:List D→Rs D}(hc:JJ X (.builtin id) g)(hg:Gl X x)(hm:X.mg x=none)(hv:bootBuiltins x=some (.builtin id))(ha:PDA X (e::es) fs)(hn:x ≠ "__name__" := by decide)(hdb:(x==("__debug__" : Str))=false:=by decide)
  (he:starEach (e::es) X.env=(false,eval e X.env)::starEach es X.env:=by rfl) (hpl:(backTo pos (starEach es X.env)).any (·.1)=false:=by rfl):PDE X (.Call (.Name x p) (e::es) [] pos) (yd g fs):=by
 refine X11 hc fun r h1 h2=>?_
 exact PE.imp (L2.pe_callB h1 hg hm hv ha hn hdb he hpl) fun σ H Q z_=>by refine X21 z_ fun Fz τ R h=>?_;exact tAs.of R h.bind fun ds vs F1 H1 q x R1 rr=>h2 F1 H1 vs ds Q R1.fh rr (q.imp fun d e=>e.ext x)
noncomputable def IxD(X:Cx)(op:D→D→Rs D):Prop:=∃r:R2,IxR X r∧∀F H x y dx dy Q,Same F H→Rep X.K F dx x→Rep X.K F dy y→Ok X (op dx dy) (Ev X.K F H Q)→r x y H Q
theorem yk{a b:Expr}{fa fb:FE}{op:D→D→Rs D}(hr:IxD X op)(ha:PDE X a fa)(hb:PDE X b fb)(hs:vU b:=by intro _ _;rfl):PDE X (.Subscript a b pos) (eOp op fa fb):=by
 refine X11 hr fun r h1 h2=>?_
 exact PE.imp (YQ h1 ha hb hs) (Gh h2)
noncomputable def ixD:D→D→Rs D
 |.lst ds,.int k=>match atI ds k with
  |some d=>.ok d
  |none=>.no
 |.tup ds,.int k=>match atI ds k with
  |some d=>.ok d
  |none=>.no
 |.scr ns,.int k=>match atI ns k with
  |some d=>.ok (.int d)
  |none=>.no
 |.str x,.int k=>match atI x.cps.toList k with
  |some c=>if x.length≤sizeLine then .ok (.str ⟨#[c]⟩) else .no
  |none=>.no
 |_,_=>.no
theorem zk4{α β:Type}{f:α→β}{xs:List α}{k:Int}{a:α}(h:atI xs k=some a):atI (xs.map f) k=some (f a):=by
 unfold atI at h ⊢
 rw[List.length_map]
 cases q:ixN xs.length k with
 |none=>rw[q] at h;cases h
 |some j=>
  rw[q] at h
  have h:xs[j]?=some a:=h
  show(xs.map f)[j]?=_
  rw[List.getElem?_map,h];rfl
theorem yS:IxD X ixD:=⟨_,zt3,fun F H x y dx dy Q fh r1 r2 h=>by
 cases dx with
 |lst ds=>
  cases dy with
  |int k=>
   simp only[Rep] at r1 r2;obtain⟨a,vs,rfl,q,t⟩:=r1;subst r2
   (delta ixD at h;dsimp only at h)
   cases z:atI ds k with
   |none=>rw[z] at h;exact h.elim
   |some d=>
    rw[z] at h
    refine X11 (Yo t z) fun v z1 z2=>?_
    exact .inl ⟨a,vs,k,v,rfl,rfl,SqL.of (fh _ _ q),z1,h v F H (Ext.refl fh) z2⟩
  |_=>exact h.elim
 |tup ds=>
  cases dy with
  |int k=>
   simp only[Rep] at r1 r2;obtain⟨a,vs,rfl,q,t⟩:=r1;subst r2
   (delta ixD at h;dsimp only at h)
   cases z:atI ds k with
   |none=>rw[z] at h;exact h.elim
   |some d=>
    rw[z] at h
    refine X11 (Yo t z) fun v z1 z2=>?_
    exact .inr (.inl ⟨a,vs,k,v,rfl,rfl,Same.seqT fh q,z1,h v F H (Ext.refl fh) z2⟩)
  |_=>exact h.elim
 |scr ns=>
  cases dy with
  |int k=>
   simp only[Rep] at r1 r2;obtain⟨a,rfl,q⟩:=r1;subst r2
   (delta ixD at h;dsimp only at h)
   cases z:atI ns k with
   |none=>rw[z] at h;exact h.elim
   |some d=>
    rw[z] at h
    exact .inl ⟨a,_,k,.int d,rfl,rfl,fh.seq q,zk4 z,h (.int d) F H (Ext.refl fh) (by simp only[Rep])⟩
  |_=>exact h.elim
 |str x=>
  cases dy with
  |int k=>
   simp only[Rep] at r1 r2;subst r1;subst r2
   (delta ixD at h;dsimp only at h)
   cases z:atI x.cps.toList k with
   |none=>rw[z] at h;exact h.elim
   |some c=>
    rw[z] at h
    obtain⟨z2,h⟩:=yG h
    exact .inr (.inr ⟨x,k,c,rfl,rfl,z2,z,h _ F H (Ext.refl fh) (by simp only[Rep])⟩)
  |_=>exact h.elim
 |_=>cases dy <;> exact h.elim⟩
end
mutual
noncomputable def we:D→PyData
 |.non=>.none
 |.bl b=>.bool b
 |.int i=>.int i
 |.str x=>.str x
 |.lst ds=>.list (toPys ds)
 |.tup ds=>.tuple (toPys ds)
 |.scr ns=>.list (ns.map .int)
 |.raw _=>.none
 |.exc _=>.none
 |.dct _ _=>.none
noncomputable def toPys:List D→List PyData
 |[]=>[]
 |d::r=>we d::toPys r
end
mutual
noncomputable def wn:D→Bool
 |.lst ds=>plainDs ds
 |.tup ds=>plainDs ds
 |.raw _=>false
 |.exc _=>false
 |.dct _ _=>false
 |_=>true
noncomputable def plainDs:List D→Bool
 |[]=>true
 |d::r=>wn d&&plainDs r
end
theorem readsAll_ints{h:Heap}:∀{ns:List Int} {us:List Value},Vals (ns.map V.int) us→ReadsAll h us (ns.map .int) []
 |[],_,.nil=>.nil
 |n::ns,_,.cons r t=>by
  obtain⟨tk,rfl⟩:=r
  exact .cons (as:=[]) (bs:=[]) (.int n tk) (readsAll_ints t)
section
variable{X:Cx}{pins:List (Addr×Obj)}{σ:St}{F H:Hp}{s:Shared}
mutual
theorem w5(I:Inv X pins σ H s)(fh:Same F H):∀(d:D) {v:V} {u:Value},Rep X.K F d v→RelV v u→wn d=true→∃as,Reads s.heap u (we d) as
 |.non,v,u,r,rv,_=>by simp only[Rep] at r;subst r;cases rv;exact⟨[],.none⟩
 |.bl b,v,u,r,rv,_=>by simp only[Rep] at r;subst r;cases rv;exact⟨[],.bool b⟩
 |.int i,v,u,r,rv,_=>by simp only[Rep] at r;subst r;obtain⟨t,rfl⟩:=rv;exact⟨[],.int i t⟩
 |.str x,v,u,r,rv,_=>by simp only[Rep] at r;subst r;obtain⟨t,rfl⟩:=rv;exact⟨[],.str x t⟩
 |.lst ds,v,u,r,rv,hp=>by
  simp only[Rep] at r;obtain⟨a,vs,rfl,q,t⟩:=r
  cases rv
  obtain⟨its,rr,⟨o,n,e,c,_,dd⟩,_⟩:=I.list (SqL.of (K:=X.K) (fh _ _ q))
  obtain⟨as,ra⟩:=readss_of I fh ds t rr (by simpa only[wn] using hp)
  exact⟨a::as,by rw[we];exact .list e c dd (by simpa using ra)⟩
 |.tup ds,v,u,r,rv,hp=>by
  simp only[Rep] at r;obtain⟨a,vs,rfl,q,t⟩:=r
  cases rv
  obtain⟨its,rr,⟨o,e,c,n,dd⟩,_⟩:=I.tuple (Same.seqT fh q)
  obtain⟨as,ra⟩:=readss_of I fh ds t rr (by simpa only[wn] using hp)
  exact⟨as,by rw[we];exact .tuple e c dd (by simpa using ra)⟩
 |.scr ns,v,u,r,rv,hp=>by
  simp only[Rep] at r;obtain⟨a,rfl,q⟩:=r
  cases rv
  obtain⟨its,rr,⟨o,n,e,c,_,dd⟩,_⟩:=I.list (fh.seq q)
  exact⟨[a],by rw[we];exact .list e c dd (by simpa using readsAll_ints rr)⟩
 |.raw w,v,u,r,rv,hp=>by simp[wn] at hp
 |.exc w,v,u,r,rv,hp=>by simp[wn] at hp
 |.dct _ _,v,u,r,rv,hp=>by simp[wn] at hp
theorem readss_of(I:Inv X pins σ H s)(fh:Same F H):∀(ds:List D) {vs:List V} {us:List Value},Reps X.K F ds vs→Vals vs us→plainDs ds=true→∃as,ReadsAll s.heap us (toPys ds) as
 |[],vs,us,r,rv,_=>by simp only[Reps] at r;subst r;cases rv;exact⟨[],by rw[toPys];exact .nil⟩
 |d::ds,vs,us,r,rv,hp=>by
  simp only[Reps] at r
  obtain⟨v,r',rfl,q,t⟩:=r
  simp only[plainDs,Bool.and_eq_true] at hp
  cases rv with
  |cons r1 r2=>
   obtain⟨as,h1⟩:=w5 I fh d q r1 hp.1
   obtain⟨bs,h2⟩:=readss_of I fh ds t r2 hp.2
   exact⟨as++bs,by rw[toPys];exact .cons h1 h2⟩
end
end
noncomputable def okD(d:D):Bool:=wn d&&(we d).canLay0&&decide ((we d).depth≤60)
theorem uo{d:D}(h:okD d=true):wn d=true∧(we d).canLay0=true∧(we d).depth≤60:=by
 simpa[okD,and_assoc] using h
noncomputable def vq(d e:D):Bool:=PyData.eqv (we d) (we e)
noncomputable def eqD:D→D→Rs D
 |.str x,.str y=>.ok (.bl (x==y))
 |.int x,.int y=>.ok (.bl (x==y))
 |d,e=>if okD d=true∧okD e=true then .ok (.bl (vq d e)) else .no
noncomputable def neD:D→D→Rs D
 |.str x,.str y=>.ok (.bl (!(x==y)))
 |.int x,.int y=>.ok (.bl (!(x==y)))
 |d,e=>if okD d=true∧okD e=true then .ok (.bl (!vq d e)) else .no
section
variable{X:Cx}
noncomputable def QZ(K:Frag)(b:D→D→Bool):R2:=fun x y H Q=>∃F d e,Same F H∧Rep K F d x∧Rep K F e y∧okD d=true∧okD e=true∧Q (.bl (b d e)) H
theorem Mt(hu:X.A.units+64<cLine):OpR X (compareOp .Eq) (QZ X.K vq):=by
 intro pins s σ H x y v u Q I rx ry h
 refine X35 h fun F d e fh r1 r2 o1 o2 q=>?_
 refine X02 (uo o1) fun p1 c1 e1=>?_
 refine X02 (uo o2) fun p2 c2 e2=>?_
 obtain⟨as,h1⟩:=w5 I fh d r1 rx p1
 obtain⟨bs,h2⟩:=w5 I fh e r2 ry p2
 exact SeqAt.compareEq_reads h1 h2 c1 c2 (by lia) ⟨.bl _,H,I,rfl,q⟩
theorem Mr(hu:X.A.units+64<cLine):OpR X (compareOp .NotEq) (QZ X.K fun d e=>!vq d e):=by
 intro pins s σ H x y v u Q I rx ry h
 refine X35 h fun F d e fh r1 r2 o1 o2 q=>?_
 refine X02 (uo o1) fun p1 c1 e1=>?_
 refine X02 (uo o2) fun p2 c2 e2=>?_
 obtain⟨as,h1⟩:=w5 I fh d r1 rx p1
 obtain⟨bs,h2⟩:=w5 I fh e r2 ry p2
 exact SeqAt.compareNe_reads h1 h2 c1 c2 (by lia) ⟨.bl _,H,I,rfl,q⟩
theorem wS(hu:X.A.units+64<cLine):OpD X (compareOp .Eq) eqD:=⟨_,op_eq.or (Mt hu),fun F H x y dx dy Q fh r1 r2 h=>by
 have gen:(Ok X (if okD dx=true∧okD dy=true then .ok (.bl (vq dx dy)) else .no) (Ev X.K F H Q))→rEq x y H Q∨QZ X.K vq x y H Q:=fun h=>by
  obtain⟨z,h⟩:=yG h
  exact .inr ⟨F,dx,dy,fh,r1,r2,z.1,z.2,h _ F H (Ext.refl fh) (by simp only[Rep])⟩
 cases dx with
 |str a=>
  cases dy with
  |str b=>
   simp only[Rep] at r1 r2;subst r1;subst r2
   exact .inl ⟨rfl,by rw[Xt];exact h _ F H (Ext.refl fh) (by simp only[Rep])⟩
  |_=>exact gen h
 |int a=>
  cases dy with
  |int b=>
   simp only[Rep] at r1 r2;subst r1;subst r2
   exact .inl ⟨rfl,by rw[Xu];exact h _ F H (Ext.refl fh) (by simp only[Rep])⟩
  |_=>exact gen h
 |_=>exact gen h⟩
theorem uy(hu:X.A.units+64<cLine):OpD X (compareOp .NotEq) neD:=⟨_,op_ne.or (Mr hu),fun F H x y dx dy Q fh r1 r2 h=>by
 have gen:(Ok X (if okD dx=true∧okD dy=true then .ok (.bl (!vq dx dy)) else .no) (Ev X.K F H Q))→rNe x y H Q∨QZ X.K (fun d e=>!vq d e) x y H Q:=fun h=>by
  obtain⟨z,h⟩:=yG h
  exact .inr ⟨F,dx,dy,fh,r1,r2,z.1,z.2,h _ F H (Ext.refl fh) (by simp only[Rep])⟩
 cases dx with
 |str a=>
  cases dy with
  |str b=>
   simp only[Rep] at r1 r2;subst r1;subst r2
   exact .inl ⟨rfl,by rw[Xt];exact h _ F H (Ext.refl fh) (by simp only[Rep])⟩
  |_=>exact gen h
 |int a=>
  cases dy with
  |int b=>
   simp only[Rep] at r1 r2;subst r1;subst r2
   exact .inl ⟨rfl,by rw[Xu];exact h _ F H (Ext.refl fh) (by simp only[Rep])⟩
  |_=>exact gen h
 |_=>exact gen h⟩
noncomputable def intOp(C:Int→Int→Bool)(g:Int→Int→D):D→D→Rs D
 |.int i,.int j=>if C i j=true then .ok (g i j) else .no
 |_,_=>.no
theorem Gg{f:Value→Value→Sem Value}{C':Int→Int→Prop}{C:Int→Int→Bool}{gv:Int→Int→V}{g:Int→Int→D}(h:OpR X f (rI C' gv))(hc:∀i j,C i j=true→C' i j)(hg:∀F i j,Rep X.K F (g i j) (gv i j)):OpD X f (intOp C g):=
 ⟨_,h,fun F H x y dx dy Q fh r1 r2 q=>by
  cases dx with
  |int i=>
   cases dy with
   |int j=>
    simp only[Rep] at r1 r2;subst r1;subst r2
    obtain⟨z,q⟩:=yG q
    exact⟨i,j,rfl,rfl,hc i j z,q _ F H (Ext.refl fh) (hg F i j)⟩
   |_=>exact q.elim
  |_=>cases dy <;> exact q.elim⟩
noncomputable def Wb(g:Int→Int→D):D→D→Rs D
 |.int i,.int j=>.ok (g i j)
 |_,_=>.no
theorem ZY{f:Value→Value→Sem Value}{gv:Int→Int→V}{g:Int→Int→D}(h:OpR X f (rI0 gv))(hg:∀F i j,Rep X.K F (g i j) (gv i j)):OpD X f (Wb g):=
 ⟨_,h,fun F H x y dx dy Q fh r1 r2 q=>by
  cases dx with
  |int i=>
   cases dy with
   |int j=>
    simp only[Rep] at r1 r2;subst r1;subst r2
    exact Y22 i j rfl rfl (q _ F H (Ext.refl fh) (hg F i j))
   |_=>exact q.elim
  |_=>cases dy <;> exact q.elim⟩
noncomputable def vV:=Wb fun i j=>.int (i-j)
theorem ul:OpD X (binaryOp .Sub) vV:=ZY zq1 fun _ _ _=>by simp only[Rep]
noncomputable def Uc:=intOp (fun _ j=>decide (0<j)) fun i j=>.int (i%j)
theorem jZ:OpD X (binaryOp .Mod) Uc:=Gg zq3 (fun i j h=>by simpa using h) fun _ _ _=>by simp only[Rep]
noncomputable def Wm:=intOp (fun _ j=>decide (0<j∧j<1073741824)) fun i j=>.int (i / j)
theorem ZZ:OpD X (binaryOp .FloorDiv) Wm:=Gg zf5 (fun i j h=>by have h':0<j∧j<1073741824:=of_decide_eq_true h;exact h') fun _ _ _=>by simp only[Rep]
noncomputable def ltI:=Wb fun i j=>.bl (decide (i<j))
noncomputable def gtD:=Wb fun i j=>.bl (decide (j<i))
noncomputable def geD:=Wb fun i j=>.bl (decide (j≤i))
theorem zp8:OpD X (compareOp .Lt) ltI:=ZY op_lt fun _ _ _=>by simp only[Rep]
theorem J9:OpD X (compareOp .Gt) gtD:=ZY op_gt fun _ _ _=>by simp only[Rep]
theorem zq0:OpD X (compareOp .GtE) geD:=ZY op_ge fun _ _ _=>by simp only[Rep]
noncomputable def zV:D→D→Rs D
 |.int i,.int j=>.ok (.int (i+j))
 |.str i,.str j=>if i.length+j.length≤sizeLine then .ok (.str (i++j)) else .no
 |.lst i,.lst j=>if i.length+j.length≤sizeLine then .ok (.lst (i++j)) else .no
 |_,_=>.no
theorem zR:OpD X (binaryOp .Add) zV:=⟨_,op_add.or (op_add_str.or zq5),fun F H x y dx dy Q fh r1 r2 q=>by
 cases dx with
 |int i=>
  cases dy with
  |int j=>
   simp only[Rep] at r1 r2;subst r1;subst r2
   exact .inl ⟨i,j,rfl,rfl,q _ F H (Ext.refl fh) (by simp only[Rep])⟩
  |_=>exact q.elim
 |str i=>
  cases dy with
  |str j=>
   simp only[Rep] at r1 r2;subst r1;subst r2
   obtain⟨z,q⟩:=yG q
   exact .inr (.inl ⟨i,j,rfl,rfl,z,q _ F H (Ext.refl fh) (by simp only[Rep])⟩)
  |_=>exact q.elim
 |lst i=>
  cases dy with
  |lst j=>
   simp only[Rep] at r1 r2
   obtain⟨a,vs,rfl,e1,t1⟩:=r1
   obtain⟨b,ws,rfl,e2,t2⟩:=r2
   obtain⟨z,q⟩:=yG q
   refine .inr (.inr ⟨a,b,vs,ws,rfl,rfl,fh _ _ e1,fh _ _ e2,by rw[← t1.length,← t2.length];exact z,fun p hp=>q _ _ _ (Ext.new fh hp) ?_⟩)
   simp only[Rep]
   exact Y22 p (vs++ws) rfl zp ((t1.append t2).mono (yq (zF fh hp)))
  |_=>exact q.elim
 |_=>cases dy <;> exact q.elim⟩
noncomputable def jC:D→D→Rs D
 |.int i,.int j=>if (-(18446744073709551616)<i∧i<18446744073709551616)∨(-(18446744073709551616)<j∧j<18446744073709551616) then .ok (.int (i*j)) else .no
 |.lst i,.int k=>if k<16777216∧-16777216<k∧i.length*k.toNat≤sizeLine then .ok (.lst (List.replicate k.toNat i).flatten) else .no
 |_,_=>.no
theorem vw:OpD X (binaryOp .Mult) jC:=⟨_,op_mul.or zq2,fun F H x y dx dy Q fh r1 r2 q=>by
 cases dx with
 |int i=>
  cases dy with
  |int j=>
   simp only[Rep] at r1 r2;subst r1;subst r2
   obtain⟨z,q⟩:=yG q
   refine .inl ⟨i,j,rfl,rfl,?_,q _ F H (Ext.refl fh) (by simp only[Rep])⟩
   unfold CMul
   rcases z with z|z
   ·exact .inl (by lia)
   ·exact .inr (by lia)
  |_=>exact q.elim
 |lst i=>
  cases dy with
  |int k=>
   simp only[Rep] at r1 r2
   obtain⟨a,vs,rfl,e1,t1⟩:=r1
   subst r2
   obtain⟨z,q⟩:=yG q
   refine .inr ⟨a,k,vs,rfl,rfl,fh _ _ e1,by lia,by lia,by rw[← t1.length];exact z.2.2,fun p hp=>q _ _ _ (Ext.new fh hp) ?_⟩
   simp only[Rep]
   exact Y22 p _ rfl zp ((t1.rep k.toNat).mono (yq (zF fh hp)))
  |_=>exact q.elim
 |_=>cases dy <;> exact q.elim⟩
noncomputable def UI(i j:Str):Bool:=!(Builtin.Str.occurrences j i 0 j.length 1).isEmpty
noncomputable def inD:D→D→Rs D
 |.str i,.str j=>.ok (.bl (UI i j))
 |d,.lst xs=>if okD d=true∧okD (.lst xs)=true then .ok (.bl (xs.any fun y=>vq y d)) else .no
 |d,.tup xs=>if okD d=true∧okD (.tup xs)=true then .ok (.bl (xs.any fun y=>vq y d)) else .no
 |_,_=>.no
noncomputable def zr7(r:D):Rs D:=match r with
 |.bl b=>.ok (.bl (!b))
 |_=>.no
noncomputable def XY(d e:D):Rs D:=(inD d e).bind zr7
theorem WX:∀xs:List D,toPys xs=xs.map we:=by
 intro l_
 induction l_ with
 |nil=>
  exact rfl
 |cons d r ih_=>
  rw[toPys,ih_,List.map_cons]
theorem j4(xs:List D)(d:D):((toPys xs).any fun y=>PyData.eqv y (we d))=xs.any fun y=>vq y d:=by
 rw[WX,List.any_map];rfl
noncomputable def rInD(K:Frag)(neg:Bool):R2:=fun x y H Q=>∃F d e xs,Same F H∧Rep K F d x∧Rep K F e y∧okD d=true∧okD e=true∧(e=.lst xs∨e=.tup xs)∧Q (.bl (if neg then !(xs.any fun y=>vq y d) else xs.any fun y=>vq y d)) H
theorem Ms(hu:X.A.units+128<cLine):OpR X (compareOp .In) (rInD X.K false):=by
 intro pins s σ H x y v u Q I rx ry h
 obtain⟨F,d,e,xs,fh,r1,r2,o1,o2,he,q⟩:=h
 refine X02 (uo o1) fun p1 c1 e1=>?_
 refine X02 (uo o2) fun p2 c2 e2=>?_
 obtain⟨as,h1⟩:=w5 I fh d r1 rx p1
 obtain⟨bs,h2⟩:=w5 I fh e r2 ry p2
 rcases he with rfl|rfl
 ·rw[we] at h2 c2 e2
  refine SeqAt.in_list_reads h2 h1 (by simpa only[PyData.canLay0] using c2) c1 (by lia) ⟨.bl _,H,I,rfl,?_⟩
  rw[j4];exact q
 ·rw[we] at h2 c2 e2
  refine SeqAt.in_tuple_reads h2 h1 (by simpa only[PyData.canLay0] using c2) c1 (by lia) ⟨.bl _,H,I,rfl,?_⟩
  rw[j4];exact q
theorem V5(hu:X.A.units+128<cLine):OpR X (compareOp .NotIn) (rInD X.K true):=by
 intro pins s σ H x y v u Q I rx ry h
 obtain⟨F,d,e,xs,fh,r1,r2,o1,o2,he,q⟩:=h
 refine X02 (uo o1) fun p1 c1 e1=>?_
 refine X02 (uo o2) fun p2 c2 e2=>?_
 obtain⟨as,h1⟩:=w5 I fh d r1 rx p1
 obtain⟨bs,h2⟩:=w5 I fh e r2 ry p2
 rcases he with rfl|rfl
 ·rw[we] at h2 c2 e2
  refine SeqAt.notIn_list_reads h2 h1 (by simpa only[PyData.canLay0] using c2) c1 (by lia) ⟨.bl _,H,I,rfl,?_⟩
  rw[j4];exact q
 ·rw[we] at h2 c2 e2
  refine SeqAt.notIn_tuple_reads h2 h1 (by simpa only[PyData.canLay0] using c2) c1 (by lia) ⟨.bl _,H,I,rfl,?_⟩
  rw[j4];exact q
theorem u7(hu:X.A.units+128<cLine):OpD X (compareOp .In) inD:=⟨_,op_in_str.or (Ms hu),fun F H x y dx dy Q fh r1 r2 q=>by
 cases dy with
 |lst xs=>
  have q':Ok X (if okD dx=true∧okD (.lst xs)=true then .ok (.bl (xs.any fun y=>vq y dx)) else .no) (Ev X.K F H Q):=by cases dx <;> exact q
  obtain⟨z,q⟩:=yG q'
  exact .inr ⟨F,dx,_,xs,fh,r1,r2,z.1,z.2,.inl rfl,q _ F H (Ext.refl fh) (by simp only[Rep];rfl)⟩
 |tup xs=>
  have q':Ok X (if okD dx=true∧okD (.tup xs)=true then .ok (.bl (xs.any fun y=>vq y dx)) else .no) (Ev X.K F H Q):=by cases dx <;> exact q
  obtain⟨z,q⟩:=yG q'
  exact .inr ⟨F,dx,_,xs,fh,r1,r2,z.1,z.2,.inr rfl,q _ F H (Ext.refl fh) (by simp only[Rep];rfl)⟩
 |str j=>
  cases dx with
  |str i=>
   simp only[Rep] at r1 r2;subst r1;subst r2
   exact .inl ⟨i,j,rfl,rfl,q _ F H (Ext.refl fh) (by simp only[Rep,UI])⟩
  |_=>exact q.elim
 |_=>cases dx <;> exact q.elim⟩
theorem Mq(hu:X.A.units+128<cLine):OpD X (compareOp .NotIn) XY:=⟨_,op_notin_str.or (V5 hu),fun F H x y dx dy Q fh r1 r2 q=>by
 have q:=Ok.bind q
 cases dy with
 |lst xs=>
  have q':Ok X (if okD dx=true∧okD (.lst xs)=true then .ok (.bl (xs.any fun y=>vq y dx)) else .no) (fun r=>Ok X (zr7 r) (Ev X.K F H Q)):=by cases dx <;> exact q
  obtain⟨z,q⟩:=yG q'
  exact .inr ⟨F,dx,_,xs,fh,r1,r2,z.1,z.2,.inl rfl,q _ F H (Ext.refl fh) (by simp only[Rep];rfl)⟩
 |tup xs=>
  have q':Ok X (if okD dx=true∧okD (.tup xs)=true then .ok (.bl (xs.any fun y=>vq y dx)) else .no) (fun r=>Ok X (zr7 r) (Ev X.K F H Q)):=by cases dx <;> exact q
  obtain⟨z,q⟩:=yG q'
  exact .inr ⟨F,dx,_,xs,fh,r1,r2,z.1,z.2,.inr rfl,q _ F H (Ext.refl fh) (by simp only[Rep];rfl)⟩
 |str j=>
  cases dx with
  |str i=>
   simp only[Rep] at r1 r2;subst r1;subst r2
   exact .inl ⟨i,j,rfl,rfl,q _ F H (Ext.refl fh) (by simp only[Rep,UI])⟩
  |_=>exact q.elim
 |_=>cases dx <;> exact q.elim⟩
noncomputable def isN:D→Rs Bool
 |.non=>.ok true
 |.raw _=>.no
 |.exc _=>.no
 |.dct _ _=>.no
 |_=>.ok false
noncomputable def isD(d e:D):Rs D:=match e with
 |.non=>(isN d).bind fun b=>.ok (.bl b)
 |_=>.no
noncomputable def jb(d e:D):Rs D:=match e with
 |.non=>(isN d).bind fun b=>.ok (.bl (!b))
 |_=>.no
theorem Gy{F:Hp}{d:D}{v:V}{P:Bool→Prop}(r:Rep X.K F d v)(h:Ok X (isN d) P):P (decide (v=.non)):=by
 cases d with
 |non=>simp only[Rep] at r;subst r;exact h
 |bl b=>simp only[Rep] at r;subst r;exact h
 |int b=>simp only[Rep] at r;subst r;exact h
 |str b=>simp only[Rep] at r;subst r;exact h
 |lst b=>simp only[Rep] at r;obtain⟨a,vs,rfl,_⟩:=r;exact h
 |tup b=>simp only[Rep] at r;obtain⟨a,vs,rfl,_⟩:=r;exact h
 |scr b=>simp only[Rep] at r;obtain⟨a,rfl,_⟩:=r;exact h
 |raw b=>exact h.elim
 |exc b=>exact h.elim
 |dct _ _=>exact h.elim
theorem zp9:OpD X (compareOp .Is) isD:=⟨_,zq4,fun F H x y dx dy Q fh r1 r2 q=>by
 cases dy with
 |non=>simp only[Rep] at r2;exact⟨r2,Gy r1 (Ok.bind q) _ F H (Ext.refl fh) (by simp only[Rep])⟩
 |_=>exact q.elim⟩
theorem Vd:OpD X (compareOp .IsNot) jb:=⟨_,zf4,fun F H x y dx dy Q fh r1 r2 q=>by
 cases dy with
 |non=>simp only[Rep] at r2;have q':Ok X ((isN dx).bind fun b=>Rs.ok (D.bl (!b))) (Ev X.K F H Q):=q;have q2:=Gy (P:=fun b=>Ok X (Rs.ok (D.bl (!b))) (Ev X.K F H Q)) r1 (Ok.bind q');exact⟨r2,q2 _ F H (Ext.refl fh) (by simp only[Rep])⟩
 |_=>exact q.elim⟩
noncomputable def xZ(fa:FE):FE:=fun τ=>(fa τ).bind fun d=>match d with
 |.int i=>.ok (.int (-i))
 |_=>.no
theorem wF{a:Expr}{pos:Pos}{fa:FE}(ha:PDE X a fa):PDE X (.UnaryOp .USub a pos) (xZ fa):=
 PE.imp (pe_un zn2 ha) fun σ H Q z_=>by
  refine X21 z_ fun F τ R h=>?_
  refine tE.of R h.bind fun d v F1 H1 g x R1 r=>?_
  cases d with
  |int i=>simp only[Rep] at r;exact Y11 i r (g _ F1 H1 x (by simp only[Rep]))
  |_=>exact g.elim
end
noncomputable def xc(env:Env)(cs:List (Str×Addr))(y:Str×NameKind):List (Str×Addr):=if y.2==NameKind.free then (y.1,(env.cells.lookup y.1).getD 0)::cs else cs
noncomputable def wI(scope:Scope)(env:Env):List (Str×Addr):=scope.names.foldl (xc env) []
theorem uB{scope:Scope}{env:Env}(h:∀y∈scope.names,y.2=.free→(env.cells.lookup y.1).isSome=true):closureFor scope env=pure (wI scope env):=by
 unfold closureFor wI
 generalize scope.names=names at h
 have gen:∀(cs:List (Str×Addr)),(forIn names cs fun x r=>(do
   if (x.2==NameKind.free)=true then do
    let c ← cellOf env x.1
    pure PUnit.unit
    pure (ForInStep.yield ((x.1,c)::r))
   else do
    pure PUnit.unit
    pure (ForInStep.yield r)):Sem (List (Str×Addr)))=pure (names.foldl (xc env) cs):=by
  induction names with
  |nil=>intro cs;rfl
  |cons y r ih=>
   intro cs
   rw[List.forIn_cons,List.foldl_cons]
   by_cases hk:y.2=.free
   ·obtain⟨c,hc⟩:=Option.isSome_iff_exists.mp (h y List.mem_cons_self hk)
    have e:xc env cs y=(y.1,c)::cs:=by simp[xc,hk,hc]
    rw[e,← ih (fun z hz=>h z (List.mem_cons_of_mem _ hz))]
    simp only[hk,beq_self_eq_true,if_true,cellOf,hc]
    rfl
   ·have hb:(y.2==NameKind.free)=false:=by simpa using hk
    have e:xc env cs y=cs:=by simp[xc,hb]
    rw[e,← ih (fun z hz=>h z (List.mem_cons_of_mem _ hz))]
    simp only[hb,Bool.false_eq_true,if_false]
    rfl
 show((forIn names ([]:List (Str×Addr)) fun x r=>(do
   if (x.2==NameKind.free)=true then do
    let c ← cellOf env x.1
    pure PUnit.unit
    pure (ForInStep.yield ((x.1,c)::r))
   else do
    pure PUnit.unit
    pure (ForInStep.yield r)):Sem (List (Str×Addr))) >>= fun s=>pure s)=_
 rw[gen []]
 rfl
theorem Y2{env:Env}{x:Str}:∀{names:List (Str×NameKind)} {cs:List (Str×Addr)} {c:Addr},(names.foldl (xc env) cs).lookup x=some c→cs.lookup x=some c∨(∃y∈names,y.1=x∧y.2=.free∧c=(env.cells.lookup x).getD 0)
 |[],cs,c,h=>.inl h
 |y::r,cs,c,h=>by
  rw[List.foldl_cons] at h
  rcases Y2 h with q|⟨z,hz,e⟩
  ·by_cases hk:y.2=.free
   ·have e:xc env cs y=(y.1,(env.cells.lookup y.1).getD 0)::cs:=by simp[xc,hk]
    rw[e,List.lookup_cons] at q
    by_cases hx:x=y.1
    ·subst hx
     simp at q
     exact .inr ⟨y,List.mem_cons_self,rfl,hk,q.symm⟩
    ·have hb:(x==y.1)=false:=by simpa using hx
     rw[hb] at q
     exact .inl q
   ·have hb:(y.2==NameKind.free)=false:=by simpa using hk
    have e:xc env cs y=cs:=by simp[xc,hb]
    rw[e] at q
    exact .inl q
  ·exact .inr ⟨z,List.mem_cons_of_mem _ hz,e⟩
theorem jL{env:Env}{x:Str}:∀{names:List (Str×NameKind)} {cs:List (Str×Addr)},((∃y∈names,y.1=x∧y.2=.free)∨∃c,cs.lookup x=some c)→∃c,(names.foldl (xc env) cs).lookup x=some c
 |[],cs,h=>by
  rcases h with ⟨y,hy,_⟩|h
  ·cases hy
  ·exact h
 |y::r,cs,h=>by
  rw[List.foldl_cons]
  refine jL ?_
  by_cases hk:y.2=.free
  ·have e:xc env cs y=(y.1,(env.cells.lookup y.1).getD 0)::cs:=by simp[xc,hk]
   rw[e]
   by_cases hx:x=y.1
   ·subst hx;exact .inr ⟨(env.cells.lookup y.1).getD 0,by rw[List.lookup_cons];simp⟩
   ·have hb:(x==y.1)=false:=by simpa using hx
    rcases h with ⟨z,hz,e1,e2⟩|⟨c,hc⟩
    ·rcases List.mem_cons.mp hz with rfl|hz
     ·exact absurd e1.symm hx
     ·exact .inl ⟨z,hz,e1,e2⟩
    ·exact .inr ⟨c,by rw[List.lookup_cons,hb];exact hc⟩
  ·have hb:(y.2==NameKind.free)=false:=by simpa using hk
   have e:xc env cs y=cs:=by simp[xc,hb]
   rw[e]
   rcases h with ⟨z,hz,e1,e2⟩|h
   ·rcases List.mem_cons.mp hz with rfl|hz
    ·exact absurd e2 hk
    ·exact .inl ⟨z,hz,e1,e2⟩
   ·exact .inr h
noncomputable def _root_.L2.Cx.comp(X:Cx)(scope:Scope)(N:List Str)(s:Shared)(H:Hp)(C:Addr)(fp:List Addr):Cx:=
 { prog:=X.prog,w:=X.w,K:=X.K,mg:=X.mg,base:=X.base,A:=X.A,N:=N,s₀:=s,H₀:=H,env:=compEnvC scope (wI scope X.env) C X.env,outer:=X.stack,stack:=X.stack,ex:=fp,fn:=fun _=>false,calm:=X.calm,pn:=[],xe:=fun _ _=>False }
structure wa(X:Cx)(scope:Scope):Prop where
 kind:scope.kind=.function
 nocell:∀y∈scope.names,y.2≠.cell
 locs:∀y∈scope.names,y.2=.local→scope.names.lookup y.1=some .local
 free:∀y∈scope.names,y.2=.free→X.env.kindOf y.1=some .cell∨X.env.kindOf y.1=some .free
theorem vM{env:Env}:∀{names:List (Str×NameKind)} {x:Str},((names.map fun (n,k)=>if (k==NameKind.free&&env.scope.kind == .function&&env.kindOf n==some .cell) then (n,NameKind.cell) else (n,k)).lookup x=some .cell ∨
  (names.map fun (n,k)=>if (k==NameKind.free&&env.scope.kind == .function&&env.kindOf n==some .cell) then (n,NameKind.cell) else (n,k)).lookup x=some .free)→(∀y∈names,y.2≠.cell)→∃y∈names,y.1=x∧y.2=.free
 |[],_,h,_=>by rcases h with h|h <;> simp at h
 | (n,k)::r,x,h,hc=>by
  have hr:∀y∈r,y.2≠.cell:=fun y hy=>hc y (List.mem_cons_of_mem _ hy)
  rw[List.map_cons] at h
  by_cases hx:x=n
  ·subst hx
   by_cases hk:k=.free
   ·exact Y12 _ List.mem_cons_self rfl hk
   ·have hb:(k==NameKind.free)=false:=by simpa using hk
    have hck:k≠.cell:=hc (x,k) List.mem_cons_self
    simp only[hb,Bool.false_and,Bool.false_eq_true,if_false,List.lookup_cons,beq_self_eq_true] at h
    rcases h with h|h
    ·exact absurd (Option.some.inj h) hck
    ·exact absurd (Option.some.inj h) hk
  ·have hb:(x==n)=false:=by simpa using hx
   have step:∀q:Str×NameKind,q.1=n→((q::(r.map fun (n,k)=>if (k==NameKind.free&&env.scope.kind == .function&&env.kindOf n==some .cell) then (n,NameKind.cell) else (n,k))).lookup x)=((r.map fun (n,k)=>if (k==NameKind.free&&env.scope.kind == .function&&env.kindOf n==some .cell) then (n,NameKind.cell) else (n,k)).lookup x):=fun q hq=>by
    obtain⟨q1,q2⟩:=q
    simp only at hq
    subst hq
    rw[List.lookup_cons,hb]
   have h':((r.map fun (n,k)=>if (k==NameKind.free&&env.scope.kind == .function&&env.kindOf n==some .cell) then (n,NameKind.cell) else (n,k)).lookup x=some .cell∨(r.map fun (n,k)=>if (k==NameKind.free&&env.scope.kind == .function&&env.kindOf n==some .cell) then (n,NameKind.cell) else (n,k)).lookup x=some .free):=by
    rcases h with h|h
    ·left;exact(step _ (by show(if (k==NameKind.free&&env.scope.kind == .function&&env.kindOf n==some .cell)=true then (n,NameKind.cell) else (n,k)).1=n;split <;> rfl)).symm.trans h
    ·right;exact(step _ (by show(if (k==NameKind.free&&env.scope.kind == .function&&env.kindOf n==some .cell)=true then (n,NameKind.cell) else (n,k)).1=n;split <;> rfl)).symm.trans h
   refine X11 (vM h' hr) fun y hy e=>?_
   exact Y11 y (List.mem_cons_of_mem _ hy) e
theorem uY{env:Env}:∀{names:List (Str×NameKind)} {x:Str},names.lookup x=some .free→¬ (names.map fun (n,k)=>if (k==NameKind.free&&env.scope.kind == .function&&env.kindOf n==some .cell) then (n,NameKind.cell) else (n,k)).lookup x=some .local
 |[],_,h=>by simp at h
 | (n,k)::r,x,h=>by
  rw[List.map_cons]
  show ¬ List.lookup x ((if (k==NameKind.free&&env.scope.kind == .function&&env.kindOf n==some .cell)=true then (n,NameKind.cell) else (n,k))::_)=_
  rw[List.lookup_cons] at h
  by_cases hx:x=n
  ·subst hx
   simp only[beq_self_eq_true] at h
   have hk:k=.free:=Option.some.inj h
   subst hk
   split <;> simp[List.lookup_cons]
  ·have hb:(x==n)=false:=by simpa using hx
   rw[hb] at h
   split
   ·rw[List.lookup_cons,hb];exact uY h
   ·rw[List.lookup_cons,hb];exact uY h
section
variable{X:Cx}{scope:Scope}{N':List Str}
theorem YM(S:wa X scope)(ok:X.Ok){x:Str}{c:Addr}(h:(wI scope X.env).lookup x=some c):X.env.cells.lookup x=some c:=by
 rcases Y2 h with q|⟨y,hy,e1,e2,e3⟩
 ·simp at q
 ·subst e1
  obtain⟨c',hc'⟩:=ok.has y.1 (S.free y hy e2)
  rw[hc'] at e3 ⊢
  rw[e3];rfl
theorem za0{pins:List (Addr×Obj)}{σ σ':St}{H:Hp}{s:Shared}{h1:Heap}{fp:List Addr}{t:Nat}(S:wa X scope)(I:Inv X pins σ H s)(hfp:∀b∈fp,WS X pins H b)(hlt:∀b∈fp,b<s.heap.objs.size)
  (hn:h1.Ns s.heap.objs.size fun _=>none) (hsb:∀b o,s.heap.get? b=some o→h1.get? b=some o) (hl:σ'.length=N'.length)
  (hσ:∀(i:Nat) (v:V),σ'[i]?=some (some v)→∃(x:Str) (j:Nat),N'[i]?=some x∧X.N[j]?=some x∧σ[j]?=some (some v)∧scope.names.lookup x=some .free) :
  Inv (X.comp scope N' s H s.heap.objs.size fp) [] σ' H { s with heap:=h1,toks:=t }:=by
 have hH:H s.heap.objs.size=none:=I.hok.fresh (Nat.le_refl _)
 have cl:∀{x c},(wI scope X.env).lookup x=some c→X.env.cells.lookup x=some c:=fun h=>YM S I.ok h
 have kept:∀{c v},s.heap.IsCell c v→h1.IsCell c v:=fun ⟨o,e,d⟩=>⟨o,hsb _ o e,d⟩
 refine⟨⟨I.ok.mod,S.kind,I.ok.glob,I.ok.blt,Nat.le_refl _,fun x y c e1 e2=>I.ok.inj x y c (cl e1) (cl e2),fun x hx=>?_,fun x c hf _=>absurd hf (by simp[Cx.comp]),I.ok.hd,I.ok.frames,.inl rfl,fun b hb=>?_,I.bs,Nat.le_trans I.ok.bsz I.sz,fun b o e hb=>?_,fun b hb hs=>?_,I.stack,I.stkFree⟩,
  I.os.symm ▸ rfl,I.bare,Un.kept hsb,⟨_,hn,fun i x v e1 e2 e3=>?_⟩,fun x c e=>?_,hH,fun x c e=>I.freeC x c (cl e),fun p hp=>absurd (show p∈([]:List (Addr×Obj)) from hp) (by simp),I.hok.kept hsb,hl⟩
 ·have hx:(relabel scope X.env).names.lookup x=some .cell∨(relabel scope X.env).names.lookup x=some .free:=hx
  exact jL (.inl (vM hx S.nocell))
 ·have hb:b∈fp:=hb
  refine⟨Nat.ne_of_lt (hlt b hb),fun x c e=>(hfp b hb).2.2.2.2.1 x c (cl e)⟩
 ·have hb:b∈fp:=hb
  rcases (hfp b hb).2.2.2.1 with z|z
  ·exact I.ok.noex b o e z
  ·exact absurd (Nat.lt_of_lt_of_le (Heap.lt_size e) (Nat.le_trans I.ok.bsz z)) (Nat.lt_irrefl _)
 ·have hb:b∈fp:=hb
  refine X03 (hfp b hb) fun _ f1 f2 _=>?_
  rcases List.mem_cons.mp (I.stkSub b hs) with z|z
  ·exact f1 z
  ·exact f2 z
 ·refine X23 (hσ i v e2) fun x' j e4 e5 e6 e9=>?_
  have hy:=PySem.mem_of_lookup e9
  have e1':N'[i]?=some x:=e1
  rw[e1'] at e4;replace e4:=sI_ e4;subst e4
  have kd:=S.free _ hy rfl
  refine X11 I.loc fun m hm hl=>?_
  refine X11 (hl j x v e5 e6 (kd.elim (fun z=>.inr (.inl z)) fun z=>.inr (.inr z))) fun u ru lk=>?_
  refine Y11 u ru ?_
  rcases lk with ⟨z,_⟩|⟨z,c,hc,hcell⟩
  ·rcases kd with k|k <;> rw[k] at z <;> cases z
  ·obtain⟨c',hc'⟩:=jL (env:=X.env) (names:=scope.names) (cs:=[]) (x:=x) (.inl ⟨_,hy,rfl,rfl⟩)
   have:=cl hc'
   rw[hc] at this;replace this:=sI_ this;subst this
   have e3':(relabel scope X.env).names.lookup x=some .local∨(relabel scope X.env).names.lookup x=some .cell∨(relabel scope X.env).names.lookup x=some .free:=e3
   rcases e3' with q|q|q
   ·exact absurd q (uY e9)
   ·exact .inr ⟨.inl q,c,hc',kept hcell⟩
   ·exact .inr ⟨.inr q,c,hc',kept hcell⟩
 ·obtain⟨v,z⟩:=I.cell x c (cl e)
  exact⟨v,kept z⟩
end
theorem MU{prog:Program}{w:World}{A:Around}{R:Result→Shared→Prop}{s:Shared}{elt target iter:Expr}{ifs:List Expr}{scope:Scope}{pos:Pos}{it acc:Value}{env:Env}(I:Nat→Shared→Prop)
  (turn:∀n s,I n s→wpAny (model prog w) A (pyNext it) (fun r s₁=>match r with
   |none=>R (.ok .next) s₁
   |some v=>wpAny (model prog w) A (letOwnedTupleGo target it v) (fun _ s0=>wpAny (model prog w) A (assign target env v) (fun _ s₂=>
     wpAny (model prog w) A (forIn ifs true fun c r=>if r=true then do let ok ← isTrue c env (eval c env);pure (ForInStep.yield ok) else pure (ForInStep.yield r)) (fun ok s₃=>
      if ok=true then wpAny (model prog w) A (eval elt env) (fun x s₄=>
       wpAny (model prog w) A (call (.builtin "list.append") [acc,x]) (fun _ s₅=>∃m,m<n∧I m s₅) (fun _ _=>False) s₄) (fun _ _=>False) s₃
      else ∃m,m<n∧I m s₃) (fun _ _=>False) s₂) (fun _ _=>False) s0) (fun _ _=>False) s₁) (fun _ _=>False) s)
  (n:Nat) (h:I n s) :
  codeAny (model prog w) A (.compLoop (.ListComp elt [⟨target,iter,ifs,0⟩] scope pos) 0 it acc env) R s:=by
 refine codeAny_loop rfl I (fun n s hI=>?_) n h
 show wpAny _ A ((compTurn (.ListComp elt [⟨target,iter,ifs,0⟩] scope pos) 0 it acc env).onRaise (fun x=>do noteFrame x env;theTreesLotGoes x)) _ _ s
 refine wpAny_noted ?_
 rw[compTurn_list]
 refine wpAny_bind (wpAny_standAt (wpAny_bind (wpAny_mono (turn n s hI) (fun r s₁ h₁=>?_) fun _ _ h'=>h'.elim)))
 cases r with
 |none=>exact wpAny_pure h₁
 |some v=>
  refine wpAny_bind (wpAny_mono h₁ (fun _ s0 h0=>?_) fun _ _ h'=>h'.elim)
  refine wpAny_bind (wpAny_mono h0 (fun _ s₂ h₂=>wpAny_bind (wpAny_mono h₂ (fun ok s₃ h₃=>?_) fun _ _ h'=>h'.elim)) fun _ _ h'=>h'.elim)
  cases ok with
  |false=>exact wpAny_pure ⟨rfl,h₃⟩
  |true=>
   exact wpAny_bind (wpAny_bind (wpAny_mono h₃ (fun x s₄ h₄=>wpAny_bind (wpAny_mono h₄ (fun _ s₅ h₅=>wpAny_pure (wpAny_pure ⟨rfl,h₅⟩)) fun _ _ h'=>h'.elim)) fun _ _ h'=>h'.elim))
theorem Lj{M:Model}{A:Around}{env:Env}{Q:Bool→Shared→Prop}{E:Value→Shared→Prop}{s:Shared}(h:Q true s) :
  wpAny M A (forIn ([]:List Expr) true fun c r=>if r=true then do let ok ← isTrue c env (eval c env);pure (ForInStep.yield ok) else pure (ForInStep.yield r)) Q E s:=wpAny_pure h
theorem La{M:Model}{A:Around}{env:Env}{Q:Bool→Shared→Prop}{E:Value→Shared→Prop}{s:Shared}{c:Expr}(h:wpAny M A (isTrue c env (eval c env)) Q E s) :
  wpAny M A (forIn [c] true fun c r=>if r=true then do let ok ← isTrue c env (eval c env);pure (ForInStep.yield ok) else pure (ForInStep.yield r)) Q E s:=by
 rw[List.forIn_cons]
 simp only[if_true]
 refine wpAny_bind (wpAny_bind (wpAny_mono h (fun b s' q=>wpAny_pure ?_) fun _ _ e=>e))
 exact wpAny_pure q
noncomputable def PTs(Y:Cx)(ifs:List Expr)(t:TT):Prop:=∀(pins:List (Addr×Obj)) (s:Shared) (σ:St) (H:Hp) (Q:Bool→Hp→Prop),Inv Y pins σ H s→t σ H Q →
 wpAny (model Y.prog Y.w) Y.A (forIn ifs true fun c r=>if r=true then do let ok ← isTrue c Y.env (eval c Y.env);pure (ForInStep.yield ok) else pure (ForInStep.yield r)) (TP Y pins σ Q) Y.xe s
theorem Q1{Y:Cx}:PTs Y [] (fun _ H Q=>Q true H):=fun pins s σ H Q I h=>Lj ⟨H,I,h⟩
theorem zd6{Y:Cx}{c:Expr}{t:TT}(h:PT Y c t):PTs Y [c] t:=fun pins s σ H Q I q=>La (h pins s σ H Q I q)
noncomputable def UE(s0:St→St)(wi:TI)(g:TG)(ti:TT)(te:TE):TE:=fun σ H Q=>wi σ H fun J H1=>∀acc,H1 acc=none→∃W:Nat→Nat→St→Hp→Prop,(∃m,W 0 m (s0 σ) (upd H1 acc (.lst [])))∧∀i m σ1 H,W i m σ1 H →
 (J.stop i H∧Q (.ref acc) H)∨(J.go i H∧∀x H',J.yld i H x H'→g x σ1 H' fun σ2 H2=>ti σ2 H2 fun b H3=>
  if b=true then te σ2 H3 fun y H4=>∃ys,H4 acc=some (.lst ys)∧ys.length<sizeLine∧∃m',m'<m∧W (i+1) m' σ2 (upd H4 acc (.lst (ys++[y]))) else ∃m',m'<m∧W (i+1) m' σ2 H3)
section
variable{X:Cx}{scope:Scope}{N':List Str}{tg iter elt:Expr}{ifs:List Expr}{pos:Pos}{wi:TI}{g:TG}{ti:TT}{te:TE}{s0:St→St}
theorem zi5{P:Program}{w:World}{H:Hp}{h h':Heap}{C:Addr}(ok:HOk P w H h)(hC:H C=none)(k:∀b o,b≠C→h.get? b=some o→h'.get? b=some o):HOk P w H h':=fun b u e=>by
 refine(ok b u e).stay (fun c v hc q=>k c v ?_ q) (fun _ q=>q) fun _ _ q=>q
 rintro rfl
 rcases hc with z|z
 ·subst z;rw[hC] at e;nomatch e
 ·rw[hC] at z;nomatch z
theorem Wo{pins:List (Addr×Obj)}{σ:St}{H:Hp}{s:Shared}{QQ:V→Hp→Prop}{J:It}{fp:List Addr}{it acc:Addr}{tn:Nat→Heap→Prop}{RR:Addr→Result→Shared→Prop}{E:Value→Shared→Prop}{W:Nat→Nat→St→Hp→Prop}{m0:Nat}
  (S:wa X scope) (hc:X.calm=true) (hl:(s0 σ).length=N'.length)
  (hσ:∀(i:Nat) (v:V),(s0 σ)[i]?=some (some v)→∃(x:Str) (j:Nat),N'[i]?=some x∧X.N[j]?=some x∧σ[j]?=some (some v)∧scope.names.lookup x=some .free)
  (hg:∀s H C fp,PG (X.comp scope N' s H C fp) tg g) (ht:∀s H C fp,PTs (X.comp scope N' s H C fp) ifs ti) (he:∀s H C fp,PE (X.comp scope N' s H C fp) elt te)
  (I:Inv X pins σ H s) (T:Ux X.prog X.w X.K tg J fp it tn) (st:tn 0 s.heap) (hfp:∀b∈fp,WS X pins H b) (hlt:∀b∈fp,b<s.heap.objs.size) (hacc:acc<s.heap.objs.size)
  (w0:W 0 m0 (s0 σ) H) (turn:∀i m σ1 H,W i m σ1 H→(J.stop i H∧QQ (.ref acc) H)∨(J.go i H∧∀x H',J.yld i H x H'→g x σ1 H' fun σ2 H2=>ti σ2 H2 fun b H3=>
    if b=true then te σ2 H3 fun y H4=>∃ys,H4 acc=some (.lst ys)∧ys.length<sizeLine∧∃m',m'<m∧W (i+1) m' σ2 (upd H4 acc (.lst (ys++[y]))) else ∃m',m'<m∧W (i+1) m' σ2 H3))
  (hRR:∀s',(∃m,s'.heap.Ns s.heap.objs.size m)→(∀h',Heap.SameBut s.heap.objs.size s'.heap h'→EP X pins σ (fun v H'=>QQ v H'∧H' s.heap.objs.size=none) (.ref acc) { s' with heap:=h' })→RR s.heap.objs.size (.ok .next) s') :
  wpAny (model X.prog X.w) X.A (newFunctionEnv scope X.env.globals (wI scope X.env) [] X.env.qual none .none (some X.env)) (fun cenv s₄=>
   codeAny (model X.prog X.w) X.A (.compStart (.ListComp elt [⟨tg,iter,ifs,0⟩] scope pos) 0 (.ref it) (.ref acc) { cenv with scope:=relabel scope X.env }) (RR cenv.locals) s₄) E s:=by
 refine wpAny_newFunctionEnv S.nocell (by intro y hy;simp at hy) (fun h1 hns hsb=>?_) S.kind
 have keep3:∀b o,s.heap.get? b=some o→h1.get? b=some o:=fun b o e=>hsb.extBut b o (Nat.ne_of_lt (Heap.lt_size e)) (get?_push_of_some _ e)
 have Y0:Inv (X.comp scope N' s H s.heap.objs.size fp) [] (s0 σ) H { s with heap:=h1,toks:=s.toks+([]:List (Str×Value)).length }:=za0 S I hfp hlt hns keep3 hl hσ
 have fpY:∀{H':Hp},(∀b∈fp,H' b=none)→∀b∈fp,WS (X.comp scope N' s H s.heap.objs.size fp) [] H' b:=fun {H'} hn b hb=>by
  obtain⟨f0,f1,f2,f3,f4,f5⟩:=hfp b hb
  refine⟨hn b hb,Nat.ne_of_lt (hlt b hb),fun z=>?_,.inl hb,fun x c e=>f4 x c (YM S I.ok e),fun p hp=>absurd (show p∈([]:List (Addr×Obj)) from hp) (by simp)⟩
  rcases List.mem_cons.mp (I.stkSub b z) with q|q
  ·exact f1 q
  ·exact f2 q
 have st1:tn 0 h1:=T.keep _ _ _ st fun b hb o e=>keep3 b o e
 have loop:∀s3:Shared,s3 = { s with heap:=h1,toks:=s.toks+([]:List (Str×Value)).length } →
   codeAny (model X.prog X.w) X.A (.compLoop (.ListComp elt [⟨tg,iter,ifs,0⟩] scope pos) 0 (.ref it) (.ref acc) (X.comp scope N' s H s.heap.objs.size fp).env) (RR s.heap.objs.size) s3:=by
  rintro s3 rfl
  refine MU (fun n s'=>∃i σ' H',Inv (X.comp scope N' s H s.heap.objs.size fp) [] σ' H' s'∧tn i s'.heap∧(∀b∈fp,H' b=none)∧W i n σ' H') ?_ m0 ⟨0,s0 σ,H,Y0,st1,fun b hb=>(hfp b hb).1,w0⟩
  rintro n s4 ⟨i,σ4,H4,I4,st4,fr4,w4⟩
  rcases turn i n σ4 H4 w4 with ⟨stop,qn⟩|⟨go,step⟩
  ·refine thn (T.done (X.comp scope N' s H s.heap.objs.size fp) rfl rfl rfl hc i [] s4 σ4 H4 _ I4 (fpY fr4) st4 stop) fun r s5 z_=>?_
   obtain⟨hr,I5⟩:=z_
   subst hr
   refine X11 (id I5.loc) fun m5 n5 _=>?_
   have hC:H4 s.heap.objs.size=none:=I5.free
   refine hRR s5 ⟨m5,n5⟩ fun h' sb=>⟨.ref acc,H4,?_,rfl,qn,hC⟩
   refine I.call' (s':={ s5 with heap:=h' }) (ch:=fp) I5.os ⟨fun b o e n hb hx=>?_,fun b o e n hb hx=>?_,fun b o e n hx=>I5.base.free b o e n hx,fun b o e hx=>?_,I5.base.tups,I5.base.frzs,I5.base.tbls⟩ (zi5 I5.hok hC fun b o hb e=>(sb.2 b hb).trans e) I5.bare fun b hb=>?_
   ·exact(sb.2 b (Nat.ne_of_lt (Heap.lt_size e))).trans (I5.base.keep b o e n hb hx)
   ·obtain⟨sl,q⟩:=I5.base.slot b o e n hb hx
    exact⟨sl,(sb.2 b (Nat.ne_of_lt (Heap.lt_size e))).trans q⟩
   ·obtain⟨o',q⟩:=I5.base.there b o e hx
    exact⟨o',(sb.2 b (Nat.ne_of_lt (Heap.lt_size e))).trans q⟩
   ·obtain⟨f0,f1,f2,f3,f4,f5⟩:=hfp b hb
    exact⟨f3,f1,f4,f5⟩
  ·refine thn (T.item (X.comp scope N' s H s.heap.objs.size fp) rfl rfl rfl hc i [] s4 σ4 H4 _ I4 (fpY fr4) st4 go) fun r s5 z_=>?_
   refine X11 z_ fun u hr h5=>?_
   subst hr
   refine thn h5 fun _ s6 z_=>?_
   obtain⟨x,H6,I6,r6,y6,st6,fr6⟩:=z_
   have I6':=I6.pinned (fpY fr6) (T.obj _ _ st6)
   refine thn (hg _ _ _ _ _ s6 σ4 H6 x u _ I6' r6 (step x H6 y6)) fun _ s7 z_=>?_
   refine X21 z_ fun σ7 H7 I7 q7=>?_
   refine thn (ht _ _ _ _ _ s7 σ7 H7 _ I7 q7) fun ok s8 z_=>?_
   refine X11 z_ fun H8 I8 q8=>?_
   have again:∀{s9:Shared} {H9:Hp} {m':Nat},Inv (X.comp scope N' s H s.heap.objs.size fp) ([]++XG fp s6.heap) σ7 H9 s9→m'<n→W (i+1) m' σ7 H9→∃m,m<n∧∃i σ' H',Inv (X.comp scope N' s H s.heap.objs.size fp) [] σ' H' s9∧tn i s9.heap∧(∀b∈fp,H' b=none)∧W i m σ' H':=fun {s9 H9 m'} I9 hm w9=>by
    refine⟨m',hm,i+1,σ7,H9,I9.unpinned,T.keep _ _ _ st6 fun b hb o e=>(I9.pin (b,o) (List.mem_append_right _ (List.mem_append_right _ (u9 hb e)))).1,fun b hb=>?_,w9⟩
    refine X11 (T.obj _ _ st6 b hb) fun o e d=>?_
    exact(I9.pin (b,o) (List.mem_append_right _ (List.mem_append_right _ (u9 hb e)))).2.1
   cases ok with
   |false=>
    rw[if_neg (by simp)] at q8
    refine X11 q8 fun m' hm w8=>?_
    exact again I8 hm w8
   |true=>
    rw[if_pos rfl] at q8
    refine thn (he _ _ _ _ _ s8 σ7 H8 _ I8 q8) fun y s9 z_=>?_
    refine X22 z_ fun z H9 I9 r9 r44_=>?_;refine X12 r44_ fun ys e9 l9 r45_=>?_;refine X11 r45_ fun m' hm w9=>?_
    refine thn (uL _ s9 σ7 H9 (.ref acc) [z] (.ref acc) [y] (fun _ H'=>H'=upd H9 acc (.lst (ys++[z]))) I9 rfl (.cons r9 .nil) ⟨acc,ys,z,rfl,rfl,e9,l9,rfl⟩) fun _ s10 z_=>?_
    refine X22 z_ fun _ H10 I10 _ e10=>?_
    subst e10
    exact again I10 hm w9
 exact codeAny_compStart_list (loop _ rfl) (T.self _ 0 _ _ _ st1 (loop _ rfl))
end
section
variable{X:Cx}{scope:Scope}{N':List Str}{tg iter elt:Expr}{ifs:List Expr}{pos:Pos}{wi:TI}{g:TG}{ti:TT}{te:TE}{s0:St→St}
theorem zm5{pins:List (Addr×Obj)}{σ:St}{H:Hp}{s:Shared}{J:It}{fp:List Addr}{it:Addr}{tn:Nat→Heap→Prop}(T:Ux X.prog X.w X.K tg J fp it tn)(st:tn 0 s.heap):∀b∈fp,b<s.heap.objs.size:=fun b hb=>by
 refine X11 (T.obj 0 _ st b hb) fun o e _=>?_
 exact Heap.lt_size e
theorem Xi(S:wa X scope)(hc:X.calm=true)(hl:∀σ:St,σ.length=X.N.length→(s0 σ).length=N'.length)
  (hσ:∀(σ:St) (i:Nat) (v:V),(s0 σ)[i]?=some (some v)→∃(x:Str) (j:Nat),N'[i]?=some x∧X.N[j]?=some x∧σ[j]?=some (some v)∧scope.names.lookup x=some .free)
  (hi:PI X tg iter wi) (hg:∀s H C fp,PG (X.comp scope N' s H C fp) tg g) (ht:∀s H C fp,PTs (X.comp scope N' s H C fp) ifs ti) (he:∀s H C fp,PE (X.comp scope N' s H C fp) elt te)
  (hs:∀x,foldedSetIterable iter X.env x=pure x:=by intro _;rfl):PE X (.ListComp elt [⟨tg,iter,ifs,0⟩] scope pos) (UE s0 wi g ti te):=by
 intro pins s σ H Q I h
 rw[eval_ListComp]
 have hclos:=uB (scope:=scope) (env:=X.env) fun y hy hk=>Option.isSome_iff_exists.mpr (I.ok.has y.1 (S.free y hy hk))
 refine wpAny_comprehension_free (use:=none) rfl hs hclos S.kind S.locs (thn (hi pins s σ H _ I h) fun x s1 h1=>thn h1 fun itv s2 h2=>?_)
 obtain⟨it,fp,tn,J,H2,e,I2,T,st2,f2,hw⟩:=h2
 subst e
 have hf:H2 s2.heap.objs.size=none:=I2.hok.fresh (Nat.le_refl _)
 obtain⟨W,⟨m0,w0⟩,turn⟩:=hw _ hf
 have hlt:=zm5 (pins:=pins) (σ:=σ) (H:=H2) T st2
 refine wpAny_newObj_type ?_
 have I3:Inv X pins σ (upd H2 s2.heap.objs.size (.lst [])) { s2 with heap:=s2.heap.push { cls:=.type "list", dict:=none,data:=.seq ([]:List Value).toArray } }:=
  I2.laid (t':=s2.toks) (o:=.lst []) (fun b u e=>get?_push_of_some _ e) (Nat.le_refl _) ⟨Nat.zero_le _,[],0,.nil,Heap.get?_push_size _ rfl⟩
 have hsz:s2.heap.objs.size<(s2.heap.push { cls:=.type "list", dict:=none,data:=.seq ([]:List Value).toArray }).objs.size:=by rw[Heap.size_push];exact Nat.lt_succ_self _
 refine Wo (s0:=s0) (QQ:=Q) (W:=W) (m0:=m0) S hc (hl σ I2.len) (hσ σ) hg ht he I3 T (T.keep _ _ _ st2 fun b hb o e=>get?_push_of_some _ e) (fun b hb=>?_) (fun b hb=>Nat.lt_trans (hlt b hb) hsz) hsz w0 turn fun s' ⟨m,hn⟩ hq=>⟨m,hn,fun h' sb=>let ⟨v,H',I',r',q',_⟩:=hq h' sb;⟨v,H',I',r',q'⟩⟩
 refine X03 (f2 b hb) fun f0 f1 f2 f3=>?_
 exact⟨by rw[zj (Nat.ne_of_lt (hlt b hb))];exact f0,f1,f2,f3⟩
theorem Q2{i:Nat}{y:Str}{py spos:Pos}(hN:X.N.Nodup)(hiN:X.N[i]?=some y)(hy:X.env.scope.names.lookup y=some .local)
  (hsw:swapsWith (.ListComp elt [⟨tg,iter,ifs,0⟩] scope pos) (some (.Name y py)) spos.line X.env=pure true)
  (S:wa X scope) (hc:X.calm=true) (hl:∀σ:St,σ.length=X.N.length→(s0 σ).length=N'.length)
  (hσ:∀(σ:St) (i:Nat) (v:V),(s0 σ)[i]?=some (some v)→∃(x:Str) (j:Nat),N'[i]?=some x∧X.N[j]?=some x∧σ[j]?=some (some v)∧scope.names.lookup x=some .free)
  (hi:PI X tg iter wi) (hg:∀s H C fp,PG (X.comp scope N' s H C fp) tg g) (ht:∀s H C fp,PTs (X.comp scope N' s H C fp) ifs ti) (he:∀s H C fp,PE (X.comp scope N' s H C fp) elt te)
  (hs:∀x,foldedSetIterable iter X.env x=pure x:=by intro _;rfl):PS X (.Assign [.Name y py] (.ListComp elt [⟨tg,iter,ifs,0⟩] scope pos) spos) (zn7 (UE s0 wi g ti te) (Zc i)):=by
 intro pins s σ H D I h
 rw[exec_Assign_Name_used _ _ _ _ hsw]
 refine wpAny_bind (wpAny_standAt (wpAny_bind ?_))
 show wpAny _ X.A (do let _ ← comprehension (.ListComp elt [⟨tg,iter,ifs,0⟩] scope pos) scope X.env _ (newList []) false (eval iter X.env) (some (assign (.Name y py) X.env))) _ _ s
 have hclos:=uB (scope:=scope) (env:=X.env) fun y hy hk=>Option.isSome_iff_exists.mpr (I.ok.has y.1 (S.free y hy hk))
 refine wpAny_bind (wpAny_mono (wpAny_comprehension_free (use:=some (assign (.Name y py) X.env)) (Q:=fun _ s'=>SP X pins D .next s') rfl hs hclos S.kind S.locs
  (thn (hi pins s σ H _ I h) fun x s1 h1=>thn h1 fun itv s2 h2=>?_)) (fun _ s' hq=>wpAny_pure (wpAny_pure hq)) fun _ _ e=>e)
 obtain⟨it,fp,tn,J,H2,e,I2,T,st2,f2,hw⟩:=h2
 subst e
 have hf:H2 s2.heap.objs.size=none:=I2.hok.fresh (Nat.le_refl _)
 obtain⟨W,⟨m0,w0⟩,turn⟩:=hw _ hf
 have hlt:=zm5 (pins:=pins) (σ:=σ) (H:=H2) T st2
 refine wpAny_newObj_type ?_
 have I3:Inv X pins σ (upd H2 s2.heap.objs.size (.lst [])) { s2 with heap:=s2.heap.push { cls:=.type "list", dict:=none,data:=.seq ([]:List Value).toArray } }:=
  I2.laid (t':=s2.toks) (o:=.lst []) (fun b u e=>get?_push_of_some _ e) (Nat.le_refl _) ⟨Nat.zero_le _,[],0,.nil,Heap.get?_push_size _ rfl⟩
 have hsz:s2.heap.objs.size<(s2.heap.push { cls:=.type "list", dict:=none,data:=.seq ([]:List Value).toArray }).objs.size:=by rw[Heap.size_push];exact Nat.lt_succ_self _
 refine Wo (s0:=s0) (QQ:=fun x H1=>Zc i x σ H1 D.nx) (W:=W) (m0:=m0) S hc (hl σ I2.len) (hσ σ) hg ht he I3 T (T.keep _ _ _ st2 fun b hb o e=>get?_push_of_some _ e) (fun b hb=>?_) (fun b hb=>Nat.lt_trans (hlt b hb) hsz) hsz w0 turn fun s' ⟨m,hn⟩ hq=>?_
 ·refine X03 (f2 b hb) fun f0 f1 f2 f3=>?_
  exact⟨by rw[zj (Nat.ne_of_lt (hlt b hb))];exact f0,f1,f2,f3⟩
 ·refine X23 (hq s'.heap (.refl ..)) fun v H5 I5 r5 q5 hC=>?_
  have I5:Inv X pins σ H5 s':=I5
  show wpAny _ X.A (assign (.Name y py) X.env _) _ _ s'
  refine wpAny_assign_Name (W2 I5 hN hiN (.inl hy) r5 (fun s6 I6 z_=>?_) (.inr hy))
  refine X11 z_ fun a sb ha=>?_
  have lt3:=I3.lt
  have ca:∀x c,X.env.cells.lookup x=some c→c<(s2.heap.push { cls:=.type "list", dict:=none,data:=.seq ([]:List Value).toArray }).objs.size:=fun x c e=>by
   obtain⟨v,z⟩:=I3.cell x c e
   exact z.lt
  have hne:(s2.heap.push { cls:=.type "list", dict:=none,data:=.seq ([]:List Value).toArray }).objs.size≠a:=by
   rcases ha with rfl|ha
   ·exact Nat.ne_of_gt lt3
   ·exact Nat.ne_of_gt (ca _ _ ha)
  refine Y11 m (hn.sameBut sb hne) (fun h' sb'=>⟨_,H5,?_,q5⟩)
  refine I6.turned (t':=s6.toks) (it:=(s2.heap.push { cls:=.type "list", dict:=none,data:=.seq ([]:List Value).toArray }).objs.size) (fun b o hb e=>(sb'.2 b hb).trans e) hC (Nat.ne_of_gt lt3) (.inr I3.sz) (fun x c e=>Nat.ne_of_lt (ca x c e)) fun p hp=>?_
  exact Nat.ne_of_lt (Heap.lt_size (I3.pin p hp).1)
end
noncomputable def vE(set:FG)(ft:FT)(fe:FE)(τ:DS):List D→Rs (List D)
 |[]=>.ok []
 |d::r=>match set d τ with
  |.ok τ1=>match ft τ1 with
   |.ok true=>match fe τ1 with
    |.ok x=>(vE set ft fe τ r).bind fun xs=>.ok (x::xs)
    |_=>.no
   |.ok false=>vE set ft fe τ r
   |_=>.no
  |_=>.no
noncomputable def ZF:Option (Option Sl)→Option Sl
 | some (some (.val d))=>some (.val d)
 | some (some (.obr c fs))=>some (.obr c fs)
 | some (some (.obj _ c fs))=>some (.obr c fs)
 |_=>none
noncomputable def vx(k:Nat)(idx:List Nat)(τ:DS):DS:=List.replicate k none++idx.map fun j=>ZF τ[j]?
noncomputable def wf(k:Nat)(idx:List Nat)(σ:St):St:=List.replicate k none++idx.map fun j=>(σ[j]?).join
noncomputable def xK(k:Nat)(idx:List Nat)(fi:FA)(set:FG)(ft:FT)(fe:FE):FA:=fun τ=>(fi τ).bind fun ds=>match vE set ft fe (vx k idx τ) ds with
 |.ok xs=>if xs.length≤sizeLine then .ok xs else .no
 |_=>.no
noncomputable def Za(τ:DS):Prop:=(∀(i:Nat) es,τ[i]?≠some (some (.own es)))∧∀(i n:Nat) c fs,τ[i]?≠some (some (.obj n c fs))
structure Y7(set:FG):Prop where
 ov:∀d e τ τ1,set e τ=.ok τ1→set d τ1=set d τ
 no:∀d τ τ1,set d τ=.ok τ1→Za τ→Za τ1
theorem YF{τ:DS}{i:Nat}{d:D}(h:Za τ):Za (τ.set i (some (.val d))):=⟨fun j es e=>by
 by_cases hij:i=j
 ·subst hij
  rw[List.getElem?_set] at e
  simp only[if_true] at e
  split at e <;> cases e
 ·rw[List.getElem?_set_ne hij] at e;exact h.1 j es e,fun j n c fs e=>h.2 j n c fs (yV (s:=some (.val d)) rfl rfl e).2⟩
theorem _root_.oI_{α:Type}{a b:α}(h:FD.Rs.ok a=FD.Rs.ok b):a=b:=FD.Rs.ok.inj h
theorem vz(i:Nat):Y7 (gNm i):=⟨fun d e τ τ1 h=>by
 unfold gNm at h ⊢;replace h:=oI_ h;subst h;rw[List.set_set],fun d τ τ1 h n=>by unfold gNm at h;replace h:=oI_ h;subst h;exact YF n⟩
theorem To(i j:Nat):Y7 (gPr i j):=⟨fun d e τ τ1 h=>by
 unfold gPr at h ⊢
 cases q:XQ e with
 |none=>rw[q] at h;nomatch h
 |some xy=>
  obtain⟨x,y⟩:=xy
  rw[q] at h;replace h:=oI_ h;subst h
  cases q2:XQ d with
  |none=>rfl
  |some zw=>
   obtain⟨z,w⟩:=zw
   by_cases hij:i=j
   ·subst hij;simp[List.set_set]
   ·have e1:((τ.set i (some (.val x))).set j (some (.val y))).set i (some (.val z))=(τ.set i (some (.val z))).set j (some (.val y)):=by
     rw[List.set_comm _ _ (Ne.symm hij),List.set_set]
    simp only
    rw[e1,List.set_set]
    , fun d τ τ1 h n=>by
 unfold gPr at h
 cases q:XQ d with
 |none=>rw[q] at h;nomatch h
 |some xy=>
  obtain⟨x,y⟩:=xy
  rw[q] at h;replace h:=oI_ h;subst h
  exact YF (YF n)⟩
theorem u8(k:Nat)(idx:List Nat)(τ:DS):∀(i:Nat) es,(vx k idx τ)[i]?≠some (some (.own es)):=fun i es e=>by
 unfold vx at e
 by_cases hi:i<k
 ·rw[List.getElem?_append_left (by simpa using hi),List.getElem?_replicate] at e
  simp[hi] at e
 ·rw[List.getElem?_append_right (by simpa using hi),List.getElem?_map] at e
  cases q:idx[i-(List.replicate k (none:Option Sl)).length]? with
  |none=>rw[q] at e;cases e
  |some j=>
   rw[q] at e
   simp only[Option.map_some,Option.some.injEq] at e
   unfold ZF at e
   split at e <;> cases e
theorem Zt(k:Nat)(idx:List Nat)(τ:DS):∀(i n:Nat) c fs,(vx k idx τ)[i]?≠some (some (.obj n c fs)):=fun i n c fs e=>by
 unfold vx at e
 by_cases hi:i<k
 ·rw[List.getElem?_append_left (by simpa using hi),List.getElem?_replicate] at e
  simp[hi] at e
 ·rw[List.getElem?_append_right (by simpa using hi),List.getElem?_map] at e
  cases q:idx[i-(List.replicate k (none:Option Sl)).length]? with
  |none=>rw[q] at e;cases e
  |some j=>
   rw[q] at e
   simp only[Option.map_some,Option.some.injEq] at e
   unfold ZF at e
   split at e <;> cases e
theorem wT(k:Nat)(idx:List Nat)(τ:DS):Za (vx k idx τ):=⟨u8 k idx τ,Zt k idx τ⟩
theorem Ld{k:Nat}{idx:List Nat}{τ:DS}{i:Nat}{c:Str}{fs:List (Str×D)}(e:(vx k idx τ)[i]?=some (some (.obr c fs))):∃j,k≤i∧idx[i-k]?=some j∧((∃n,τ[j]?=some (some (.obj n c fs)))∨τ[j]?=some (some (.obr c fs))):=by
 unfold vx at e
 by_cases hi:i<k
 ·rw[List.getElem?_append_left (by simpa using hi),List.getElem?_replicate] at e
  simp[hi] at e
 ·rw[List.getElem?_append_right (by simpa using hi),List.getElem?_map] at e
  simp only[List.length_replicate] at e
  cases q:idx[i-k]? with
  |none=>rw[q] at e;cases e
  |some j=>
   rw[q] at e
   simp only[Option.map_some,Option.some.injEq] at e
   unfold ZF at e
   split at e <;> cases e
   ·exact Y12 j (by lia) rfl (.inr (by assumption))
   ·exact Y12 j (by lia) rfl (.inl ⟨_,by assumption⟩)
theorem ObsOk.read{K:Frag}{F H:Hp}{τ:DS}{σ:St}(n:Za τ)(h:∀(i:Nat) (c:Str) (fs:List (Str×D)),τ[i]?=some (some (.obr c fs))→∃a C dx vs,σ[i]?=some (some (.ref a))∧H a=some (.ins C dx vs)∧nsIn K mainGlobals c=some (some (.ref C))∧Flds K F H c fs vs):ObsOk K F τ σ H:=
 ⟨fun i m c fs h=>absurd h (n.2 i m c fs),fun i j m c c' fs a _ h=>absurd h (n.2 i m c fs),h,fun i j m c c' fs a a' l _ h=>absurd h (n.2 i m c fs),fun i j c ds a l _ h=>absurd h (n.1 j ds)⟩
theorem RV.free_upd{K:Frag}{F H:Hp}{τ:DS}{σ:St}{p:Addr}{o:HO}(R:RV K F τ σ H)(n:Za τ)(hp:F p=none)(hl:H p=none∨∃vs,H p=some (.lst vs))(hq:∀(i:Nat) (c:Str) (a:Addr),ObS τ[i]? c→σ[i]?=some (some (.ref a))→p∉Lof H c a)(ho:∀a,o≠.own a:=by intro _ h;nomatch h):RV K F τ σ (upd H p o):=
 ⟨fun b u e=>by
  have:b≠p:=fun z=>by subst z;rw[hp] at e;nomatch e
  rw[zj this];exact R.fh b u e,R.len,R.val,fun i es e=>absurd e (n.1 i es),fun i j ds es a _ h=>absurd h (n.1 i ds),R.tt.step (fun _ _ e=>.inl e) (fun b o e n=>by
  have:b≠p:=fun z=>by
   subst z
   rcases hl with z|⟨vs,z⟩
   ·rw[z] at e;nomatch e
   ·rw[z] at e;replace e:=sI_ e;subst e;exact n _ rfl
  rw[zj this];exact e) (wv ho),R.ob.updL hl hq⟩
theorem RS.apart{K:Frag}{B Z F H:Hp}{τ:DS}{σ:St}{p:Addr}(R:RS K B Z F τ σ H)(n:Za τ)(hp:B p=none):∀(i:Nat) (c:Str) (a:Addr),ObS τ[i]? c→σ[i]?=some (some (.ref a))→p∉Lof H c a:=fun i c a h e hm=>by
 rcases h with ⟨m,fs,h⟩|⟨fs,h⟩
 ·exact n.2 i m c fs h
 ·obtain⟨C,dx,vs,h1,h2⟩:=R.ro i c fs a h e
  rw[Lof.ins (R.bh _ _ h1),U4 (fun b ws e=>R.bh _ _ e) h2] at hm
  obtain⟨ws,h3⟩:=h2 p hm
  rw[hp] at h3;nomatch h3
theorem RS.free_upd{K:Frag}{B Z F H:Hp}{τ:DS}{σ:St}{p:Addr}{vs:List V}(R:RS K B Z F τ σ H)(n:Za τ)(hb:B p=none)(hp:F p=none)(hl:H p=none∨∃vs,H p=some (.lst vs)):RS K B Z F τ σ (upd H p (.lst vs)):=
 ⟨R.rv.free_upd n hp hl (R.apart n hb),fun a o e=>by
  have:a≠p:=fun z=>by subst z;rw[hb] at e;nomatch e
  rw[zj this];exact R.bh a o e,R.zf,R.nb,fun i ds a h=>absurd h (n.1 i ds),fun i m c fs a h=>absurd h (n.2 i m c fs),fun a0 dx h1 h2 i m c fs h=>absurd h (n.2 i (m+1) c fs),R.ro⟩
theorem VQ{K:Frag}{F H:Hp}{τ:DS}{σ:St}(k:Nat)(idx:List Nat)(R:RV K F τ σ H):RV K F (vx k idx τ) (wf k idx σ) H:=by
 refine⟨R.fh,by simp[vx,wf],fun i d e=>?_,fun i es e=>absurd e (u8 k idx τ i es),fun i j ds es a _ h=>absurd h (u8 k idx τ i ds),R.tt,ObsOk.read (wT k idx τ) fun i c fs e=>?_⟩
 rotate_left
 ·refine X12 (Ld e) fun j hk hj h=>?_
  have es:∀v,σ[j]?=some (some v)→(wf k idx σ)[i]?=some (some v):=fun v h=>by
   unfold wf
   rw[List.getElem?_append_right (by simpa using hk),List.getElem?_map]
   simp[hj,h]
  rcases h with ⟨n,h⟩|h
  ·refine X11 (R.ob.at_ j n c fs h) fun a h1 r46_=>?_;refine X34 r46_ fun C dx vs h2 _ h4 h5 _=>?_
   exact⟨a,C,dx,vs,es _ h1,h2,h4,h5⟩
  ·obtain⟨a,C,dx,vs,h1,h2,h4,h5⟩:=R.ob.rd j c fs h
   exact⟨a,C,dx,vs,es _ h1,h2,h4,h5⟩
 unfold vx at e
 unfold wf
 by_cases hi:i<k
 ·rw[List.getElem?_append_left (by simpa using hi),List.getElem?_replicate] at e
  simp[hi] at e
 ·rw[List.getElem?_append_right (by simpa using hi),List.getElem?_map] at e
  rw[List.getElem?_append_right (by simpa using hi),List.getElem?_map]
  simp only[List.length_replicate] at e ⊢
  cases q:idx[i-k]? with
  |none=>rw[q] at e;cases e
  |some j=>
   rw[q] at e
   simp only[Option.map_some,Option.some.injEq] at e
   have:τ[j]?=some (some (.val d)):=by
    unfold ZF at e
    split at e <;> cases e
    assumption
   refine X11 (R.val j d this) fun v h1 h2=>?_
   exact Y11 v (by simp[h1]) h2
theorem QX{K:Frag}{F H:Hp}{τ:DS}{σ:St}(k:Nat)(idx:List Nat)(R:RV K F τ σ H):RS K H F F (vx k idx τ) (wf k idx σ) H:=
 ⟨VQ k idx R,Hh.refl H,Same.refl F,fun a o e=>.inl e,fun i ds a h=>absurd h (u8 k idx τ i ds),fun i m c fs a h=>absurd h (Zt k idx τ i m c fs),fun a0 dx h1 h2 i m c fs h=>absurd h (Zt k idx τ i (m+1) c fs),fun i c fs a h e=>by
  obtain⟨a',C,dx,vs,h1,h2,_,h5⟩:=(VQ k idx R).ob.rd i c fs h
  rw[e] at h1;replace h1:=tI_ h1;subst h1
  exact⟨C,dx,vs,h2,fun l hl=>(h5.own hl).2⟩⟩
noncomputable def xC(H:Hp)(p:Addr):Hp:=fun b=>if b=p then none else H b
theorem wz(H:Hp)(p:Addr):xC H p p=none:=by unfold xC;rw[if_pos rfl]
theorem wG{H:Hp}{p b:Addr}(h:b≠p):xC H p b=H b:=by unfold xC;rw[if_neg h]
theorem uD(H:Hp)(p:Addr)(o:HO):upd (xC H p) p o=upd H p o:=by
 funext b;unfold upd xC;split <;> rfl
theorem uQ{F1 H1 F2 Hm F5 H5:Hp}{acc:Addr}{ls:List V}(a:Ext F1 H1 F2 Hm)(hm:Hm acc=none)(b:Ext F2 (upd Hm acc (.lst ls)) F5 H5):Ext F1 H1 F5 (xC H5 acc)∧F5 acc=none:=by
 have hf5:F5 acc=none:=by
  cases q:F5 acc with
  |none=>rfl
  |some o=>
   rcases b.nw acc o q with z|z
   ·rw[zF a.fh hm] at z;nomatch z
   ·rw[zp] at z;nomatch z
 have h1:H1 acc=none:=xm a.hh hm
 have ha:H5 acc=some (.lst ls):=b.hh acc _ zp
 refine⟨⟨a.ff.trans b.ff,fun c o e=>?_,fun c o e=>?_,fun c o e=>?_,fun t=>?_⟩,hf5⟩
 ·have n:c≠acc:=fun z=>by subst z;rw[h1] at e;nomatch e
  rw[wG n]
  exact((a.hh.trans (.of (yq hm))).trans b.hh) c o e
 ·have n:c≠acc:=fun z=>by subst z;rw[hf5] at e;nomatch e
  rw[wG n];exact b.fh c o e
 ·rcases b.nw c o e with z|z
  ·exact a.nw c o z
  ·have n:c≠acc:=fun z'=>by subst z';rw[zp] at z;nomatch z
   rw[zj n] at z
   exact .inr (xm a.hh z)
 ·have t2:=b.tt ((a.tt t).step (F':=F2) (H':=upd Hm acc (.lst ls)) (fun _ _ e=>.inl e) (fun c o e _=>by rw[zj (zC e hm)];exact e) (wv fun _ z=>nomatch z))
  exact t2.step (fun _ _ e=>.inl e) (fun c o e n=>by
   have:c≠acc:=fun z=>by subst z;rw[ha] at e;replace e:=sI_ e;subst e;exact n _ rfl
   rw[wG this];exact e) fun d a e=>by
   unfold xC at e
   split at e
   ·nomatch e
   ·exact e
noncomputable def FreeOk(scope:Scope)(N:List Str):List Str→List Nat→Prop
 |[],[]=>True
 |x::xs,j::js=>N[j]?=some x∧scope.names.lookup x=some .free∧FreeOk scope N xs js
 |_,_=>False
theorem FreeOk.len{scope:Scope}{N:List Str}:∀{xs:List Str} {js:List Nat},FreeOk scope N xs js→xs.length=js.length
 |[],[],_=>rfl
 |_::xs,_::js,h=>by rw[List.length_cons,List.length_cons,FreeOk.len h.2.2]
theorem FreeOk.get{scope:Scope}{N:List Str}:∀{xs:List Str} {js:List Nat} {p j:Nat},FreeOk scope N xs js→js[p]?=some j→∃x,xs[p]?=some x∧N[j]?=some x∧scope.names.lookup x=some .free
 |[],[],_,_,_,e=>by simp at e
 |x::xs,i::js,0,j,h,e=>by simp at e;subst e;exact Y12 x rfl h.1 h.2.1
 |x::xs,i::js,p+1,j,h,e=>by
  refine X11 (FreeOk.get (p:=p) h.2.2 (by simpa using e)) fun y h1 h2=>?_
  exact Y11 y (by simpa using h1) h2
noncomputable def vT(osc scope:Scope):Bool:=(match scope.kind with | .function=>true|_=>false)&&scope.names.all (fun y=>match y.2 with
 |.cell=>false
 |.local=>(match scope.names.lookup y.1 with|some .local=>true|_=>false)
 |.free=>(match osc.names.lookup y.1 with|some .cell=>true|some .free=>true|_=>false)
 |_=>true)
theorem xV{X:Cx}{scope:Scope}(h:vT X.env.scope scope=true):wa X scope:=by
 unfold vT at h
 rw[Bool.and_eq_true,List.all_eq_true] at h
 obtain⟨h1,h2⟩:=h
 refine⟨?_,fun y hy z=>?_,fun y hy z=>?_,fun y hy z=>?_⟩
 ·split at h1
  ·assumption
  ·nomatch h1
 ·have:=h2 y hy;rw[z] at this;nomatch this
 ·have:=h2 y hy;rw[z] at this
  simp only at this
  split at this
  ·assumption
  ·nomatch this
 ·have:=h2 y hy;rw[z] at this
  simp only at this
  split at this
  ·left;assumption
  ·right;assumption
  ·nomatch this
noncomputable def M1(Y:Cx)(ifs:List Expr)(f:FT):Prop:=PTs Y ifs (tTs Y f)
theorem ZS{Y:Cx}:M1 Y [] (fun _=>.ok true):=fun pins s σ H Q I z_=>by refine X21 z_ fun F τ R h=>?_;exact Q1 pins s σ H Q I (h F H (Ext.refl R.fh))
theorem uI{Y:Cx}{c:Expr}{f:FT}(h:PDT Y c f):M1 Y [c] f:=zd6 h
section
variable{X:Cx}{scope:Scope}{tn fr:List Str}{idx:List Nat}{tg iter elt:Expr}{ifs:List Expr}{pos:Pos}{fi:FA}{set:FG}{ft:FT}{fe:FE}
structure CWH(K:Frag)(set:FG)(ft:FT)(fe:FE)(t0:DS)(ds xs:List D)(F1 H1:Hp)(acc:Addr)(i:Nat)(σ1:St)(Hc F2 Hm:Hp)(τ1:DS)(dn rs:List D)(vs:List V):Prop where
 a1:Ext F1 H1 F2 Hm
 a2:Hm acc=none
 a3:Hc=upd Hm acc (.lst vs)
 a4:Reps K F2 dn vs
 a5:RS K H1 F1 F2 τ1 σ1 Hc
 a6:Za τ1
 a7:∀d,set d τ1=set d t0
 a8:vE set ft fe t0 (ds.drop i)=.ok rs
 a9:xs=dn++rs
theorem uV(hfr:FreeOk scope X.N fr idx)(σ:St)(i:Nat)(v:V)(h:(wf tn.length idx σ)[i]?=some (some v)):∃(x:Str) (j:Nat),(tn++fr)[i]?=some x∧X.N[j]?=some x∧σ[j]?=some (some v)∧scope.names.lookup x=some .free:=by
 unfold wf at h
 by_cases hi:i<tn.length
 ·rw[List.getElem?_append_left (by simpa using hi),List.getElem?_replicate] at h
  simp[hi] at h
 ·rw[List.getElem?_append_right (by simpa using hi),List.getElem?_map] at h
  simp only[List.length_replicate] at h
  cases q:idx[i-tn.length]? with
  |none=>rw[q] at h;cases h
  |some j=>
   rw[q] at h
   simp only[Option.map_some,Option.some.injEq] at h
   refine X12 (hfr.get q) fun x h1 h2 h3=>?_
   refine⟨x,j,by rw[List.getElem?_append_right (by lia)];exact h1,h2,?_,h3⟩
   cases z:σ[j]? with
   |none=>rw[z] at h;cases h
   |some o=>rw[z] at h;simp at h;rw[h]
end
section
variable{prog:Program}{w:World}{A:Around}{E:Value→Shared→Prop}{s:Shared}{z TI TO i1 i2:Addr}{n1 n2:Nat}{P1 P2:Nat→Value→Prop}{st1 st2:Nat→Heap→Prop}{rd1 rd2:Heap→Prop}
end
theorem zb6{X:Cx}{pins:List (Addr×Obj)}{σ:St}{H:Hp}{s:Shared}{h':Heap}{t':Nat}{ch:List Addr}{p:Addr}{xs:List V}{its:List Value}(I:Inv X pins σ H s)(k:∀b o,b∉ch→s.heap.get? b=some o→h'.get? b=some o)(hf:∀b∈ch,WS X pins H b)
  (hp:s.heap.objs.size≤p) (ht:IsTup h' p its.toArray) (hv:Vals xs its) (hz:xs.length≤sizeLine) :
  Inv X pins σ (upd H p (.tup xs)) { s with heap:=h',toks:=t' }:=by
 have hn:H p=none:=I.hok.fresh hp
 have lt:∀{b:Addr} {o:Obj},s.heap.get? b=some o→b≠p:=fun e=>Nat.ne_of_lt (Nat.lt_of_lt_of_le (Heap.lt_size e) hp)
 refine I.step (g':=s.gens) (d':=s.drawn) (ch:=ch) (fun b hb=>?_) (fun b o _ _ hc e _=>k b o hc e) (fun b o _ _ hc e _=>⟨o.slots,k b o hc e⟩) (fun b o _ e n=>by rw[zj (lt e)];exact n)
  (fun b o hc e=>⟨o,k b o hc e⟩) (fun b ys e=>by rw[zj (zC e hn)];exact e) (fun b o u e=>by rw[zj (zC e hn)];exact e) (fun b ps e=>⟨#[],by rw[zj (zC e hn),e];simp⟩) (fun m hm=>?_) (fun b u e=>?_) I.bare
 ·obtain⟨f0,f1,f2,f3,f4,f5⟩:=hf b hb
  exact⟨f3,f1,f4,f5⟩
 ·obtain⟨o,es,ep,ho,r⟩:=hm
  exact⟨o,es,ep,k _ o (fun z=>(hf _ z).2.1 rfl) ho,r⟩
 ·by_cases hb:b=p
  ·subst hb;rw[zp] at e;replace e:=sI_ e;subst e
   exact⟨hz,its,hv,ht⟩
  ·rw[zj hb] at e
   refine(I.hok b u e).stay (fun c v hc q=>k c v ?_ q) (fun c q=>by rw[zj (zC q hn)];exact q) fun c ys q=>by rw[zj (zC q hn)];exact q
   intro z
   rcases hc with q|q
   ·subst q;rw[(hf c z).1] at e;nomatch e
   ·rw[(hf c z).1] at q;nomatch q
noncomputable def zH(c:Nat):D:=.str ⟨#[c]⟩
noncomputable def jv(x:Str):List D:=x.cps.toList.map zH
noncomputable def Its(x:Str):It:=⟨fun i _=>i<x.cps.size,fun i H y H'=>H'=H∧∃c,x.cps[i]?=some c∧y=.str ⟨#[c]⟩,fun i _=>x.cps.size≤i⟩
theorem M8{P:Program}{w:World}{K:Frag}{tg:Expr}{it:Addr}{x:Str}{t:Tok}{ty:String}(hty:ty = "str_ascii_iterator" ∨ ty = "str_iterator"):Ux P w K tg (Its x) [it] it (fun k h=>h.IsStrIter it ty x t k) where
 mem:=by simp
 obj:=fun i h ⟨o,e,c,d⟩ b hb=>by
  have z:b=it:=by simpa using hb
  subst z
  exact Y11 o e (fun v z=>by rw[d] at z;nomatch z)
 keep:=fun i h h' ⟨o,e,r⟩ k=>⟨o,k it (by simp) o e,r⟩
 item:=by
  intro X hP hw hK hc i pins s σ H E I hf st hg
  subst hP hw hK
  obtain⟨f0,f1,f2,f3,f4,f5⟩:=hf it (by simp)
  have hh:X.A.handled=none:=I.ok.hd hc
  have W:Walks X.prog X.w X.A it [it] [it] x.cps.size (SignAt x) (fun i h=>h.IsStrIter it ty x t i):=by
   rcases hty with rfl|rfl
   ·exact Walks.strAscii hh it x t
   ·exact Walks.strWide hh it x t
  refine W.item i s _ _ hg st fun v h' tk hv st' kk=>?_
  obtain⟨c,u,ec,rfl⟩:=hv
  have I1:Inv X pins σ H { s with heap:=h',toks:=tk }:=I.turned (fun b o hb e=>kk b o (by simpa using hb) e) f0 f1 f3 f4 f5
  refine X12 (id st') fun o e cc d=>?_
  exact Y11 _ rfl (Jq (s:={ s with heap:=h',toks:=tk }) e cc d (by rcases hty with rfl|rfl <;> decide) ⟨.str ⟨#[c]⟩,H,I1,⟨u,rfl⟩,⟨rfl,c,ec,rfl⟩,st',fun b hb=>(hf b hb).1⟩)
 done:=by
  intro X hP hw hK hc i pins s σ H E I hf st hg
  subst hP hw hK
  obtain⟨f0,f1,f2,f3,f4,f5⟩:=hf it (by simp)
  have hh:X.A.handled=none:=I.ok.hd hc
  have hx:x.cps[i]?=none:=by have:x.cps.size≤i:=hg;simp;lia
  rcases hty with rfl|rfl
  ·exact wpAny_pyNext_ascii_end hh st hx fun h' eb=>⟨rfl,I.turned (t':=s.toks) (fun b o hb e=>eb b o hb e) f0 f1 f3 f4 f5⟩
  ·exact wpAny_pyNext_wide_end hh st hx fun h' eb=>⟨rfl,I.turned (t':=s.toks) (fun b o hb e=>eb b o hb e) f0 f1 f3 f4 f5⟩
 self:=fun _ _ _ _ _ st h=>by
  rcases hty with rfl|rfl
  ·exact wpAny_pyIter_striter_ascii st h
  ·exact wpAny_pyIter_striter_wide st h
section
variable{X:Cx}{pos:Pos}{e tg:Expr}{es:List Expr}{fe:FE}{fs:FA}
theorem zt5{K:Frag}{F1:Hp}{x:Str}:QG K (Its x) F1 (jv x):=fun i F H f1 f2=>by
 have hl:(jv x).length=x.cps.size:=by simp[jv]
 refine⟨fun h=>by rw[hl] at h;exact h,fun d hd=>?_⟩
 have hi:i<x.cps.size:=by have:=(List.getElem?_eq_some_iff.mp hd).1;rw[hl] at this;exact this
 refine⟨hi,fun y H' yy=>?_⟩
 obtain⟨e1,c,ec,rfl⟩:=yy
 subst e1
 refine Y11 F (Ext.refl f2) ?_
 have:d=zH c:=by
  simp only[jv,List.getElem?_map] at hd
  have e2:x.cps.toList[i]?=some c:=by simpa using ec
  rw[e2] at hd
  exact(Option.some.inj hd).symm
 subst this
 simp only[zH,Rep]
noncomputable def Itd(hi:Int)(n:Nat):It:=⟨fun i _=>i<n,fun i H x H'=>H'=H∧x=.int (hi-i),fun i _=>n≤i⟩
theorem UB{P:Program}{w:World}{K:Frag}{tg:Expr}(it:Addr)(hi:Int)(n:Nat):Ux P w K tg (Itd hi n) [it] it (fun i h=>IsRangeIter h it (hi+(i:Nat)*(-1)) ((n:Int)-(i:Nat)) (-1)) where
 mem:=by simp
 obj:=fun i h st b hb=>by
  have e:b=it:=by simpa using hb
  subst e
  exact Y11 _ st (fun v z=>by
   have z':Data.fields _=Data.cell v:=z
   nomatch z')
 keep:=fun i h h' st k=>k it (by simp) _ st
 item:=by
  intro X hP hw hK hc i pins s σ H E I hf st hg
  subst hP hw hK
  obtain⟨f0,f1,f2,f3,f4,f5⟩:=hf it (by simp)
  have W:=Walks.range (prog:=X.prog) (w:=X.w) (I.ok.hd hc) it hi (-1) n
  refine W.item i s _ _ hg st fun v h' tk hv st' kk=>?_
  obtain⟨t,rfl⟩:=hv
  have I1:Inv X pins σ H { s with heap:=h',toks:=tk }:=I.turned (fun b o hb e=>kk b o (by simpa using hb) e) f0 f1 f3 f4 f5
  refine Y11 _ rfl (Jq (s:={ s with heap:=h',toks:=tk }) (n := "range_iterator") st' rfl rfl (by decide) ⟨.int (hi-i),H,I1,⟨t,?_⟩,⟨rfl,rfl⟩,st',fun b hb=>(hf b hb).1⟩)
  congr 1
  lia
 done:=by
  intro X hP hw hK hc i pins s σ H E I hf st hg
  subst hP hw hK
  obtain⟨f0,f1,f2,f3,f4,f5⟩:=hf it (by simp)
  exact wpAny_pyNext_range_end (I.ok.hd hc) st (by have:n≤i:=hg;lia) fun h' eb=>⟨rfl,I.turned (t':=s.toks) (fun b o hb e=>eb b o hb e) f0 f1 f3 f4 f5⟩
 self:=fun _ _ _ _ _ st h=>wpAny_pyIter_rangeiter st h
end
section
variable{X:Cx}{pos:Pos}{e tg:Expr}{es:List Expr}{fe:FE}{fs:FA}
noncomputable def len1:D→Rs D
 |.lst ds=>.ok (.int ds.length)
 |.tup ds=>.ok (.int ds.length)
 |.scr ns=>.ok (.int ns.length)
 |.str x=>if x.length≤sizeLine then .ok (.int x.length) else .no
 |_=>.no
noncomputable def yr:List D→Rs D
 |[d]=>len1 d
 |_=>.no
theorem yT:JJ X (.builtin "len") yr:=⟨_,call_len_seq.or Us,fun F H vs ds Q fh r h=>by
 match ds,r,h with
 |[d],r,h=>
  obtain⟨v,rfl,q⟩:=r.one
  cases d with
  |lst ds=>
   simp only[Rep] at q;obtain⟨a,ws,rfl,e1,t⟩:=q
   refine .inl ⟨a,ws,rfl,.inl (SqL.of (fh _ _ e1)),?_⟩
   rw[← t.length];exact h _ F H (Ext.refl fh) (by simp only[Rep])
  |tup ds=>
   simp only[Rep] at q;obtain⟨a,ws,rfl,e1,t⟩:=q
   refine .inl ⟨a,ws,rfl,.inr (Same.seqT fh e1),?_⟩
   rw[← t.length];exact h _ F H (Ext.refl fh) (by simp only[Rep])
  |scr ns=>
   simp only[Rep] at q;obtain⟨a,rfl,e1⟩:=q
   refine .inl ⟨a,_,rfl,.inl (fh.seq e1),?_⟩
   rw[List.length_map];exact h _ F H (Ext.refl fh) (by simp only[Rep])
  |str x=>
   simp only[Rep] at q;subst q
   obtain⟨z,h⟩:=yG h
   exact .inr ⟨x,rfl,z,h _ F H (Ext.refl fh) (by simp only[Rep])⟩
  |_=>exact h.elim
 |[],_,h=>exact h.elim
 |_::_::_,_,h=>exact(show False from h).elim⟩
noncomputable def Z2(ds:List D):Rs D:=match WP ds with
 | some (i,j)=>.ok (.int (if j<i then j else i))
 |none=>.no
noncomputable def X3(ds:List D):Rs D:=match WP ds with
 | some (i,j)=>.ok (.int (if j > i then j else i))
 |none=>.no
theorem Ur(hc:X.calm=true):JJ X (.builtin "min") Z2:=⟨_,MX hc,fun F H vs ds Q fh r h=>by
 unfold Z2 at h
 cases q:WP ds with
 |none=>rw[q] at h;exact h.elim
 |some ij=>
  obtain⟨i,j⟩:=ij
  rw[q] at h
  have e:=Ui q
  subst e
  obtain⟨v,w,rfl,r1,r2⟩:=r.two
  simp only[Rep] at r1 r2;subst r1;subst r2
  exact⟨i,j,rfl,h _ F H (Ext.refl fh) (by simp only[Rep])⟩⟩
theorem zj6(hc:X.calm=true):JJ X (.builtin "max") X3:=⟨_,MY hc,fun F H vs ds Q fh r h=>by
 unfold X3 at h
 cases q:WP ds with
 |none=>rw[q] at h;exact h.elim
 |some ij=>
  obtain⟨i,j⟩:=ij
  rw[q] at h
  have e:=Ui q
  subst e
  obtain⟨v,w,rfl,r1,r2⟩:=r.two
  simp only[Rep] at r1 r2;subst r1;subst r2
  exact⟨i,j,rfl,h _ F H (Ext.refl fh) (by simp only[Rep])⟩⟩
theorem rangeSize_down(a b:Int):Builtin.Range.rangeSize a b (-1)=((a-b).toNat:Int):=by
 unfold Builtin.Range.rangeSize
 rw[if_neg (by decide)]
 by_cases h:a > b
 ·rw[if_pos h,show(- -1:Int)=1 from rfl,Int.ediv_one];lia
 ·rw[if_neg h];lia
theorem small_down{a b:Int}(ha : -(2 ^ 62)≤a)(ha':a<2 ^ 62)(hb : -(2 ^ 62)≤b)(hb':b<2 ^ 62):Builtin.Range.small a b (-1)=true:=by
 unfold Builtin.Range.small
 rw[rangeSize_down]
 simp only[Builtin.Range.rangeFitsLong,Bool.and_eq_true,Bool.or_eq_true,decide_eq_true_eq,beq_iff_eq,show ¬ (-1:Int) > 0 by decide,if_false]
 lia
noncomputable def iRngD(ta:TA):TI:=fun σ H R=>ta σ H fun vs H1=>∃i j:Int,vs=[.int i,.int j,.int (-1)]∧(-(2 ^ 62)≤i∧i<2 ^ 62∧-(2 ^ 62)≤j∧j<2 ^ 62)∧R (Itd i (i-j).toNat) H1
theorem Md{a b c:Expr}{ta:TA}{p pos:Pos}(hg:Gl X "range")(hm:X.mg "range" = none)(ha:PA X [a,b,c] ta)(hs:starEach [a,b,c] X.env=[(false,eval a X.env),(false,eval b X.env),(false,eval c X.env)]:=by rfl)(hs2:starEach [b,c] X.env=[(false,eval b X.env),(false,eval c X.env)]:=by rfl) :
  PI X tg (.Call (.Name "range" p) [a,b,c] [] pos) (iRngD ta):=by
 intro pins s σ H R I h
 refine Call_ (ja I hg hm boot_range (PyProof.Rows.callWith_type1 (thn (ha pos pins s σ H _ I h) fun us s1 z_=>?_) (by rw[hs,hs2]) (by rw[hs2];rfl)))
 refine X22 z_ fun vs H1 I1 r1 q1=>?_
 obtain⟨i,j,e,⟨q1,q2,q3,q4⟩,q⟩:=q1
 subst e
 cases r1 with
 |cons r rr=>
  cases rr with
  |cons r' rr=>
   cases rr with
   |cons r'' rr=>
    cases rr
    obtain⟨t,rfl⟩:=r
    obtain⟨t',rfl⟩:=r'
    obtain⟨t'',rfl⟩:=r''
    refine call_range_3 (by decide) ?_ (.inl (PyProof.noPylong_small (by decide)))
    have I2:Inv X pins σ H1 { s1 with heap:=s1.heap.push { cls:=.type "range", data:=.fields #[.int i t,.int j t',.int (-1) t''] },toks:=s1.toks }:=I1.kept fun b o e=>get?_push_of_some _ e
    refine wpAny_pyIter_range (IsRange.new ..) (small_down q1 q2 q3 q4) ?_
    refine⟨(s1.heap.push { cls:=.type "range", data:=.fields #[.int i t,.int j t',.int (-1) t''] }).objs.size,[(s1.heap.push { cls:=.type "range", data:=.fields #[.int i t,.int j t',.int (-1) t''] }).objs.size],_,_,H1,rfl,
     I2.kept (t':=s1.toks) fun b o e=>get?_push_of_some _ e,UB _ i (i-j).toNat,?_,fun b hb=>?_,q⟩
    ·have e1:i+((0:Nat):Int)*(-1)=i:=by simp
     have e2:(((i-j).toNat:Nat):Int)-((0:Nat):Int)=Builtin.Range.rangeSize i j (-1):=by rw[rangeSize_down];lia
     show IsRangeIter _ _ (i+((0:Nat):Int)*(-1)) ((((i-j).toNat:Nat):Int)-((0:Nat):Int)) (-1)
     rw[e1,e2]
     exact Heap.get?_push_size _ rfl
    ·have e:b=(s1.heap.push { cls:=.type "range", data:=.fields #[.int i t,.int j t',.int (-1) t''] }).objs.size:=by simpa using hb
     subst e
     exact I2.fpOk (Nat.le_refl _) (I2.hok.fresh (Nat.le_refl _))
noncomputable def YO(hi:Int)(n:Nat):List D:=(List.range n).map fun (k:Nat)=>D.int (hi-k)
theorem zi3{K:Frag}{F1:Hp}{lo:Int}{n:Nat}:QG K (Itd lo n) F1 (YO lo n):=fun i F H f1 f2=>by
 have hl:(YO lo n).length=n:=by simp[YO]
 refine⟨fun h=>by rw[hl] at h;exact h,fun d hd=>?_⟩
 have hi:i<n:=by have:=(List.getElem?_eq_some_iff.mp hd).1;rw[hl] at this;exact this
 refine⟨hi,fun x H' y=>?_⟩
 obtain⟨e1,y⟩:=y
 subst e1
 refine Y11 F (Ext.refl f2) ?_
 simp[YO,hi] at hd
 subst hd
 simp only[Rep];exact y
noncomputable def Jm:List D→Option (Int×Int)
 | [.int i,.int j,.int (-1)]=>some (i,j)
 |_=>none
theorem LN{ds:List D}{i j:Int}(h:Jm ds=some (i,j)):ds=[.int i,.int j,.int (-1)]:=by
 unfold Jm at h;split at h <;> cases h;rfl
noncomputable def ML(fs:FA):FA:=fun τ=>(fs τ).bind fun ds=>match Jm ds with
 | some (i,j)=>if (-(2 ^ 62)≤i∧i<2 ^ 62)∧-(2 ^ 62)≤j∧j<2 ^ 62 then .ok (YO i (i-j).toNat) else .no
 |none=>.no
theorem J5{a b c:Expr}{p:Pos}(hg:Gl X "range")(hm:X.mg "range" = none)(ha:PDA X [a,b,c] fs)(hs:starEach [a,b,c] X.env=[(false,eval a X.env),(false,eval b X.env),(false,eval c X.env)]:=by rfl)(hs2:starEach [b,c] X.env=[(false,eval b X.env),(false,eval c X.env)]:=by rfl) :
  PDI X tg (.Call (.Name "range" p) [a,b,c] [] pos) (ML fs):=
 PI.imp (Md hg hm ha hs hs2) fun σ H R z_=>by
  refine X21 z_ fun F τ Rv h=>?_
  refine tAs.of Rv h.bind fun ds vs F1 H1 g x R1 r=>?_
  cases q1:Jm ds with
  |none=>rw[q1] at g;exact g.elim
  |some ij=>
   obtain⟨i,j⟩:=ij
   rw[q1] at g
   have e:=LN q1
   subst e
   simp only[Reps] at r
   refine X22 r fun v r1 e1 q r47_=>?_;refine X22 r47_ fun w r2 e2 q' r48_=>?_;refine X22 r48_ fun u r3 e3 q'' e4=>?_
   simp only[Rep] at q q' q'';subst q q' q'' e4 e3 e2 e1
   obtain⟨z,g⟩:=yG g
   exact Y22 i j rfl ⟨z.1.1,z.1.2,z.2.1,z.2.2⟩ (g _ F1 H1 x zi3)
noncomputable def MtD(X:Cx)(id:String)(g:D→List D→Rs D):Prop:=∃r,MtR X id r∧∀F H v vs d ds Q,Same F H→Rep X.K F d v→Reps X.K F ds vs→Ok X (g d ds) (Ev X.K F H Q)→r v vs H Q
noncomputable def WO(T:String):D→Bool
 |.str _=>T = "str"
 |.int _=>T = "int"
 |.lst _=>T = "list"
 |.scr _=>T = "list"
 |_=>false
noncomputable def Qv(T:String)(g:D→List D→Rs D)(fo:FE):FE:=fun τ=>(fo τ).bind fun d=>if WO T d=true then g d [] else .no
theorem zn3{F H:Hp}{d:D}{v:V}{T:String}(fh:Same F H)(r:Rep X.K F d v)(h:WO T d=true):tyV X.K T v H:=by
 cases d with
 |str x=>simp only[Rep] at r;subst r;show T = "str"; simpa[WO] using h
 |int x=>simp only[Rep] at r;subst r;show T = "int"; simpa[WO] using h
 |lst ds=>simp only[Rep] at r;obtain⟨a,vs,rfl,e,t⟩:=r;exact .inl ⟨by simpa[WO] using h,vs,SqL.of (fh _ _ e)⟩
 |scr ds=>simp only[Rep] at r;obtain⟨a,rfl,e⟩:=r;exact .inl ⟨by simpa[WO] using h,_,fh.seq e⟩
 |_=>simp[WO] at h
theorem ok_if{X:Cx}{α:Type}{c:Prop}[Decidable c]{r:Rs α}{P:α→Prop}(h:Ok X (if c then r else .no) P):c∧Ok X r P:=by
 by_cases z:c
 ·rw[if_pos z] at h;exact⟨z,h⟩
 ·rw[if_neg z] at h;exact h.elim
theorem Gb{T id:String}{name:Str}{o:Expr}{apos cpos:Pos}{fo:FE}{g:D→List D→Rs D}(pa:PlainAttrs T)(slot:Slot T name id)(hty:typeOf (.builtin id)=pure (.type "method_descriptor"))(hm:MtD X id g)(ho:PDE X o fo)
  (hbase:attributeBase o name X.env (eval o X.env)=eval o X.env:=by rfl) (hline:(apos.endLine==cpos.line)=true:=by rfl):PDE X (.Call (.Attribute o name apos) [] [] cpos) (Qv T g fo):=by
 refine X11 hm fun r h1 h2=>?_
 exact PE.imp (TM pa slot hty h1 ho hbase hline) fun σ H Q z_=>by
  refine X21 z_ fun Fz τ R h=>?_
  refine tE.of R h.bind fun d v F1 H1 q x R1 rr=>?_
  obtain⟨z,q⟩:=ok_if q
  exact⟨zn3 R1.fh rr z,h2 F1 H1 v [] d [] Q R1.fh rr Reps.nil (q.imp fun d e=>e.ext x)⟩
noncomputable def upD:D→List D→Rs D
 |.str x,[]=>if x.length≤5000000 then .ok (.str (Txt.upper x)) else .no
 |_,_=>.no
noncomputable def loD:D→List D→Rs D
 |.str x,[]=>if x.length≤5000000 then .ok (.str (Txt.lower x)) else .no
 |_,_=>.no
theorem mt_up:MtR X "str.upper" (fun v vs H Q=>∃x,v=.str x∧vs=[]∧x.length≤5000000∧Q (.str (Txt.upper x)) H):=by
 intro pins s σ H v vs u us Q I r rs h
 obtain⟨x,rfl,rfl,hx,q⟩:=h
 obtain⟨t,rfl⟩:=r
 cases rs
 exact SC.upper (fit_upper (by lia)) ⟨.str (Txt.upper x),H,I.tok _,⟨_,rfl⟩,q⟩
theorem mt_lo:MtR X "str.lower" (fun v vs H Q=>∃x,v=.str x∧vs=[]∧x.length≤5000000∧Q (.str (Txt.lower x)) H):=by
 intro pins s σ H v vs u us Q I r rs h
 obtain⟨x,rfl,rfl,hx,q⟩:=h
 obtain⟨t,rfl⟩:=r
 cases rs
 exact SC.lower (fit_lower (by lia)) ⟨.str (Txt.lower x),H,I.tok _,⟨_,rfl⟩,q⟩
theorem md_up:MtD X "str.upper" upD:=⟨_,mt_up,fun F H v vs d ds Q fh r rs h=>by
 cases d with
 |str x=>
  cases ds with
  |nil=>
   simp only[Rep] at r;subst r
   simp only[Reps] at rs;subst rs
   obtain⟨z,h⟩:=yG h
   exact⟨x,rfl,rfl,z,h _ F H (Ext.refl fh) (by simp only[Rep])⟩
  |cons a b=>exact h.elim
 |_=>cases ds <;> exact h.elim⟩
theorem md_lo:MtD X "str.lower" loD:=⟨_,mt_lo,fun F H v vs d ds Q fh r rs h=>by
 cases d with
 |str x=>
  cases ds with
  |nil=>
   simp only[Rep] at r;subst r
   simp only[Reps] at rs;subst rs
   obtain⟨z,h⟩:=yG h
   exact⟨x,rfl,rfl,z,h _ F H (Ext.refl fh) (by simp only[Rep])⟩
  |cons a b=>exact h.elim
 |_=>cases ds <;> exact h.elim⟩
theorem Mn{o:Expr}{apos cpos:Pos}{fo:FE}(ho:PDE X o fo)(hbase:attributeBase o "upper" X.env (eval o X.env)=eval o X.env:=by rfl)(hline:(apos.endLine==cpos.line)=true:=by rfl):PDE X (.Call (.Attribute o "upper" apos) [] [] cpos) (Qv "str" upD fo):=
 Gb F.plainAttrs_str F.slot_str_upper F.type_str_upper md_up ho hbase hline
theorem Mp{o:Expr}{apos cpos:Pos}{fo:FE}(ho:PDE X o fo)(hbase:attributeBase o "lower" X.env (eval o X.env)=eval o X.env:=by rfl)(hline:(apos.endLine==cpos.line)=true:=by rfl):PDE X (.Call (.Attribute o "lower" apos) [] [] cpos) (Qv "str" loD fo):=
 Gb F.plainAttrs_str F.slot_str_lower F.type_str_lower md_lo ho hbase hline
end
section
variable{X:Cx}{pos:Pos}{e tg:Expr}{es:List Expr}{fe:FE}{fs:FA}
end
section
variable{X:Cx}{pos:Pos}{e tg:Expr}{es:List Expr}{fe:FE}{fs:FA}
noncomputable def rSlS:V→Option Int→Option Int→Hp→VK→Prop:=fun x lo hi H Q=>∃z,x=.str z∧z.length≤sizeLine∧Q (.str (Txt.slice z lo hi)) H
theorem sl_str:SlR X rSlS:=by
 intro pins s σ H x v vl vu lo hi sl Q I rx hs pl pu h
 obtain⟨z,rfl,hz,q⟩:=h
 obtain⟨t,rfl⟩:=rx
 refine Y22 ("str") _ F.slot_str_getitem.lookup (typeIs_str _ _ _) ?_
 refine X12 hs fun o e c d=>?_
 have fin:∀t' k,EP X pins σ Q (.str (Txt.slice z lo hi) t') { s with toks:=k }:=fun t' k=>⟨.str _,H,I.tok _,⟨_,rfl⟩,q⟩
 have hl:=Nat.le_trans (Txt.slice_le z lo hi) hz
 cases pl with
 |none=>
  cases pu with
  |none=>exact wpAny_getItem_str_slice (l:=none) (u:=none) (st:=none) ⟨o,e,c,d⟩ rfl (post_val_or_str ⟨hl,fin⟩)
  |int j uj=>exact wpAny_getItem_str_slice (l:=none) (u:=some (j,uj)) (st:=none) ⟨o,e,c,d⟩ rfl (post_val_or_str ⟨hl,fin⟩)
 |int i ui=>
  cases pu with
  |none=>exact wpAny_getItem_str_slice (l:=some (i,ui)) (u:=none) (st:=none) ⟨o,e,c,d⟩ rfl (post_val_or_str ⟨hl,fin⟩)
  |int j uj=>exact wpAny_getItem_str_slice (l:=some (i,ui)) (u:=some (j,uj)) (st:=none) ⟨o,e,c,d⟩ rfl (post_val_or_str ⟨hl,fin⟩)
noncomputable def cutD(xs:List D)(lo hi:Option Int):List D:=(xs.drop (HT.sIx xs.length 0 lo)).take (HT.sIx xs.length xs.length hi-HT.sIx xs.length 0 lo)
noncomputable def slD(d:D)(lo hi:Option Int):Rs D:=match d with
 |.str x=>if x.length≤sizeLine then .ok (.str (Txt.slice x lo hi)) else .no
 |.lst ds=>.ok (.lst (cutD ds lo hi))
 |_=>.no
noncomputable abbrev FO:=DS→Rs (Option Int)
noncomputable def vK:FO:=fun _=>.ok none
noncomputable def wt(fe:FE):FO:=fun τ=>(fe τ).bind fun d=>match d with
 |.int i=>.ok (some i)
 |_=>.no
noncomputable def tOs(X:Cx)(f:FO):TO:=fun σ H Q=>∃F τ,RV X.K F τ σ H∧Ok X (f τ) fun o=>∀F' H',Ext F H F' H'→Q o H'
noncomputable def PDO(X:Cx)(e:Option Expr)(f:FO):Prop:=PO X e (tOs X f)
theorem PO.imp{e:Option Expr}{t t':TO}(h:PO X e t)(f:∀σ H Q,t' σ H Q→t σ H Q):PO X e t':=fun pins s σ H Q I q=>h pins s σ H Q I (f _ _ _ q)
theorem jw:PDO X none vK:=PO.imp ze1 fun σ H Q z_=>by refine X21 z_ fun F τ R h=>?_;exact h F H (Ext.refl R.fh)
theorem vZ(h:PDE X e fe):PDO X (some e) (wt fe):=PO.imp (ze0 h) fun σ H Q z_=>by
 refine X21 z_ fun F τ R h=>?_
 refine tE.of R h.bind fun d v F1 H1 g x R1 r=>?_
 cases d with
 |int i=>simp only[Rep] at r;exact Y11 i r (g F1 H1 x)
 |_=>exact g.elim
noncomputable def eSl(fe:FE)(fl fh:FO):FE:=fun τ=>(fe τ).bind fun d=>(fl τ).bind fun l=>(fh τ).bind fun u=>slD d l u
theorem XN{lo hi:Option Expr}{fl fh:FO}{p2:Pos}(he:PDE X e fe)(hl:PDO X lo fl)(hu:PDO X hi fh):PDE X (.Subscript e (.Slice lo hi none p2) pos) (eSl fe fl fh):=
 PE.imp (UU (sl_str.or QR) he hl hu) fun σ H Q z_=>by
  refine X21 z_ fun F τ R h=>?_
  refine tE.of R h.bind fun d v F1 H1 g x R1 r=>?_
  refine Y21 F1 τ R1 (g.bind.imp fun l gl F2 H2 x2=>⟨F2,τ,R1.ext x2,gl.bind.imp fun u gu F3 H3 x3=>?_⟩)
  have f3:=x3.fh
  have x13:=x.trans (x2.trans x3)
  cases d with
  |str z=>
   simp only[Rep] at r
   obtain⟨zz,gu⟩:=yG gu
   exact .inl ⟨z,r,zz,gu _ F3 H3 x13 (by simp only[Rep])⟩
  |lst ds=>
   simp only[Rep] at r;obtain⟨a,vs,rfl,e1,t⟩:=r
   have gu:Ev X.K F H Q (.lst (cutD ds l u)):=gu
   refine .inr ⟨a,vs,rfl,SqL.of (f3 _ _ (x3.ff _ _ (x2.ff _ _ e1))),fun p hp=>gu _ _ _ (x13.trans (Ext.new f3 hp)) ?_⟩
   simp only[Rep]
   refine Y22 p _ rfl zp ?_
   have t3:Reps X.K F3 (cutD ds l u) (Qx vs l u):=by
    unfold cutD Qx
    rw[← t.length]
    exact((t.mono (x2.ff.trans x3.ff)).drop _).take _
   exact t3.mono (yq (zF f3 hp))
  |_=>exact gu.elim
theorem T2{x:Str}{v:V}{u:Value}{d:D}(hg:Gl X x)(hm:X.mg x=some u)(r:RelV v u)(rd:∀F,Rep X.K F d v)(hd:(x==("__debug__" : Str))=false:=by decide):PDE X (.Name x pos) (eC d):=U3 (ze5 hg hm r hd) rd
theorem uh{x:Str}{y:Str}{t:Tok}(hg:Gl X x)(hm:X.mg x=some (.str y t))(hd:(x==("__debug__" : Str))=false:=by decide):PDE X (.Name x pos) (eC (.str y)):=T2 (v:=.str y) hg hm ⟨t,rfl⟩ (fun _=>by simp only[Rep]) hd
theorem vP{x:Str}{y:Int}{t:Tok}(hg:Gl X x)(hm:X.mg x=some (.int y t))(hd:(x==("__debug__" : Str))=false:=by decide):PDE X (.Name x pos) (eC (.int y)):=T2 (v:=.int y) hg hm ⟨t,rfl⟩ (fun _=>by simp only[Rep]) hd
end
section
variable{X:Cx}{pos:Pos}{e tg:Expr}{es:List Expr}{fe:FE}{fs:FA}
noncomputable def iAnyT(K:Frag)(tl:TE):TI:=fun σ H R=>tl σ H fun x H1=>(∃a,x=.ref a∧(∃xs,SqL K H1 a xs)∧R (Itl K a) H1)∨(∃a,x=.ref a∧(∃xs,SqT K H1 a xs)∧R (Itt K a) H1)∨∃z,x=.str z∧R (Its z) H1
theorem zo6{l:Expr}{tl:TE}(hl:PE X l tl):PI X tg l (iAnyT X.K tl):=by
 intro pins s σ H R I h
 refine thn (hl pins s σ H _ I h) fun v s1 z_=>?_
 refine X22 z_ fun x H1 I1 r1 q1=>?_
 rcases q1 with ⟨a,e,⟨xs,hq⟩,q⟩|⟨a,e,⟨xs,hq⟩,q⟩|⟨z,e,q⟩
 ·subst e
  cases r1
  refine X12 (I1.list hq) fun its rv p hz=>?_
  refine wpAny_pyIter_list p.isList ?_
  refine⟨s1.heap.objs.size,[s1.heap.objs.size],_,_,H1,rfl,I1.kept (t':=s1.toks) fun b o e=>get?_push_of_some _ e,WW a _,⟨_,Heap.get?_push_size _ rfl,rfl,rfl⟩,fun b hb=>?_,q⟩
  have e:b=s1.heap.objs.size:=by simpa using hb
  subst e
  exact I1.fpOk (Nat.le_refl _) (I1.hok.fresh (Nat.le_refl _))
 ·subst e
  cases r1
  refine X12 (I1.tuple hq) fun its rv p hz=>?_
  refine wpAny_pyIter_tuple (show s1.heap.IsTuple a its.toArray from p) ?_
  refine⟨s1.heap.objs.size,[s1.heap.objs.size],_,_,H1,rfl,I1.kept (t':=s1.toks) fun b o e=>get?_push_of_some _ e,JK a _,⟨_,Heap.get?_push_size _ rfl,rfl,rfl⟩,fun b hb=>?_,q⟩
  have e:b=s1.heap.objs.size:=by simpa using hb
  subst e
  exact I1.fpOk (Nat.le_refl _) (I1.hok.fresh (Nat.le_refl _))
 ·subst e
  obtain⟨t,rfl⟩:=r1
  have fin:∀(ty:String),(ty = "str_ascii_iterator" ∨ ty = "str_iterator")→PIE X pins σ tg R (.ref s1.heap.objs.size) { s1 with heap:=s1.heap.push { cls:=.type ty,data:=.fields #[.str z t,.int 0 0] } }:=fun ty hty=>by
   refine⟨s1.heap.objs.size,[s1.heap.objs.size],_,_,H1,rfl,I1.kept (t':=s1.toks) fun b o e=>get?_push_of_some _ e,M8 hty,⟨_,Heap.get?_push_size _ rfl,rfl,rfl⟩,fun b hb=>?_,q⟩
   have e:b=s1.heap.objs.size:=by simpa using hb
   subst e
   exact I1.fpOk (Nat.le_refl _) (I1.hok.fresh (Nat.le_refl _))
  cases ha:z.cps.all (· < 128)
  ·exact wpAny_pyIter_wide ha (fin _ (.inr rfl))
  ·exact wpAny_pyIter_ascii ha (fin _ (.inl rfl))
noncomputable def Ji:D→Rs (List D)
 |.lst ds=>.ok ds
 |.scr ns=>.ok (ns.map .int)
 |.tup ds=>.ok ds
 |.str x=>.ok (jv x)
 |_=>.no
noncomputable def ve(fe:FE):FA:=fun τ=>(fe τ).bind Ji
theorem vv(he:PDE X e fe):PDI X tg e (ve fe):=
 PI.imp (zo6 he) fun σ H R z_=>by
  refine X21 z_ fun F τ Rv h=>?_
  refine tE.of Rv h.bind fun d v F1 H1 g x R1 r=>?_
  cases d with
  |lst ds=>
   simp only[Rep] at r;obtain⟨a,vs,rfl,q,t⟩:=r
   exact .inl ⟨a,rfl,⟨vs,SqL.of (R1.fh _ _ q)⟩,g _ F1 H1 x (Gx (SqL.of q) t)⟩
  |scr ns=>
   simp only[Rep] at r;obtain⟨a,rfl,q⟩:=r
   exact .inl ⟨a,rfl,⟨_,R1.fh.seq q⟩,g _ F1 H1 x (Gx q (Reps.ints ns))⟩
  |tup ds=>
   simp only[Rep] at r;obtain⟨a,vs,rfl,q,t⟩:=r
   exact .inr (.inl ⟨a,rfl,⟨vs,Same.seqT R1.fh q⟩,g _ F1 H1 x (zt4 q t)⟩)
  |str z=>simp only[Rep] at r;exact .inr (.inr ⟨z,r,g _ F1 H1 x zt5⟩)
  |_=>exact g.elim
end
noncomputable def DefOk(P:Program)(w:World)(K:Frag)(mg:Str→Option Value)(base:Heap)(x:Str)(k n:Nat)(ps:List Str)(g:List D→Rs D):Prop:=
 ∃f fd,FnOk P w K mg base CX0 k f fd ps (spD K n g)∧Binds K fd ps []∧keepIn K (.ref f)=true∧mg x=some (.ref f)
structure z7(K:Frag)(mg:Str→Option Value)(x:Str)(st:Stmt)(f:Addr)(fd:FuncData):Prop where
 fn:Fun K x x st f fd
 at_:mg x=some (.ref f)
section
variable{P:Program}{w:World}{K:Frag}{mg:Str→Option Value}{base:Heap}
theorem DefOk.mk{x:Str}{st:Stmt}{f:Addr}{fd:FuncData}{N ps:List Str}{k n:Nat}{fb:FS}{g:List D→Rs D}(D:z7 K mg x st f fd)(S:zD N ps (zh st))(hn:ps.length=n)
  (hb:∀(kV doc pm:Value) (an:Option Addr) (cdv ct:Value) (us:List Value),us.length=ps.length→bindArgs (fnOf x x (zG st) (zx st) (zh st) .none kV doc pm an cdv ct) ⟨us,[]⟩=pure (ps.zip us))
  (hbody:∀(cdv:Value) (A:Around) (outer:List Env) (s:Shared) (H:Hp) (E:XK),Room k (A.deeper (envOfC x (zh st) s.heap.objs.size f cdv)) →
   uc (jJ CX0 P w K mg base N x (zh st) f cdv A outer s H E).nox (zx st) fb)
  (hg:∀ds d,ds.length=n→g ds=.ok d→wE N.length fb ds=.ok d):DefOk P w K mg base x (k+1) n ps g:=
 ⟨f,fd,FnD.to (fnD D.fn S hn hbody) hg,D.fn.binds hb,D.fn.kp,D.at_⟩
end
section
variable{X:Cx}{pos:Pos}{e tg:Expr}{es:List Expr}{fe:FE}{fs:FA}
theorem zN{k n:Nat}{ps:List Str}{g:List D→Rs D}{x:Str}{p:Pos}(D:DefOk X.prog X.w X.K X.mg X.base x k n ps g)(hr:Room k X.A)(ha:PDA X (e::es) fs)(hfs:∀τ ds,fs τ=.ok ds→ds.length=(e::es).length)(hn:(e::es).length=n:=by rfl)(hg:Gl X x:=by rfl)(hdb:(x==("__debug__" : Str))=false:=by decide)
  (he:starEach (e::es) X.env=(false,eval e X.env)::starEach es X.env:=by rfl) (hpl:(backTo pos (starEach es X.env)).any (·.1)=false:=by rfl):PDE X (.Call (.Name x p) (e::es) [] pos) (zv g fs):=by
 refine X23 D fun f fd F hb hk hm=>?_
 exact T3 F hr hg hm hk hb ha hn hfs hdb he hpl
end
theorem vt{k:Nat}{A:Around}(r:Room k A):A.units+128<cLine:=by have:=r.un;lia
section
variable{X:Cx}{pos:Pos}{e a b:Expr}{fe fa fb:FE}
end
noncomputable def QN(K:Frag):Sp:=fun vs H Q _=>∃(a:Addr) (ns:List Int) (F:Hp),vs=[.ref a]∧Same F H∧TbT F H∧SqL K F a (ns.map V.int)∧ns.length≤63∧∀H',Q (.bl true) H'
theorem zs6{P:Program}{w:World}{K:Frag}{mg:Str→Option Value}{base:Heap}{k:Nat}{g:List D→Rs D}{p:Str}{f:Addr}{fd:FuncData}(F:FnOk P w K mg base CX0 k f fd [p] (spD K 1 g))(h:∀ns:List Int,ns.length≤63→g [.scr ns]=.ok (.bl true)) :
  FnOk P w K mg base CX0 k f fd [p] (QN K):=by
 refine F.imp fun vs H Q E z_=>?_
 refine X35 z_ fun a ns Fz e fh tt hS h63 q=>?_
 subst e
 refine⟨rfl,[.scr ns],Fz,fh,tt,Reps.cons (by simp only[Rep];exact Y11 a rfl hS) Reps.nil,?_⟩
 rw[h ns h63]
 intro v F' H' _ r
 simp only[Rep] at r
 subst r
 exact q H'
section
variable{X:Cx}{pos:Pos}{e tg:Expr}{es:List Expr}{fe:FE}{fs:FA}
theorem Tu{K:Frag}{F:Hp}(lo:Int)(n:Nat):Reps K F (jr lo n) ((List.range n).map fun (k:Nat)=>V.int (lo+k)):=by
 unfold jr
 generalize List.range n=l
 induction l with
 |nil=>exact Reps.nil
 |cons a r ih=>exact Reps.cons (by simp only[Rep]) ih
theorem M3{lo:Int}{acc:Array Value}{n:Nat}(h:ItemsOf (fun i v=>∃t,v=Value.int (lo+i*1) t) acc n):Vals ((List.range n).map fun (k:Nat)=>V.int (lo+k)) acc.toList:=by
 obtain⟨hn,hi⟩:=h
 have key:∀(l:List Value) (j:Nat),(∀k v,l[k]?=some v→∃t,v=Value.int (lo+((j+k:Nat):Int)) t)→Vals ((List.range' j l.length).map fun (k:Nat)=>V.int (lo+k)) l:=fun l=>by
  induction l with
  |nil=>intro j _;exact .nil
  |cons a r ih=>
   intro j hj
   rw[List.length_cons,List.range'_succ,List.map_cons]
   refine .cons ?_ (ih (j+1) fun k v hv=>?_)
   ·obtain⟨t,rfl⟩:=hj 0 a rfl
    exact⟨t,by simp⟩
   ·obtain⟨t,e⟩:=hj (k+1) v (by simpa using hv)
    exact⟨t,by rw[e];congr 2;lia⟩
 have:=key acc.toList 0 fun k v hv=>by
  obtain⟨t,e⟩:=hi k v (by simpa using hv)
  exact⟨t,by rw[e];simp⟩
 rw[length_toList,hn,← List.range_eq_range'] at this
 exact this
noncomputable def uq(fi:FA):FA:=fun τ=>(fi τ).bind fun ds=>if ds.length≤16777216 then .ok ds else .no
theorem Ly{pins:List (Addr×Obj)}{σ:St}{F H F1 H1:Hp}{s1:Shared}{Q:VK}{lo hi:Int}{t u v:Tok}{tk:Nat}(hc:X.calm=true)(I1:Inv X pins σ H1 s1)(h1 : -(2 ^ 62)≤lo)(h2:lo<2 ^ 62)(h3 : -(2 ^ 62)≤hi)(h4:hi<2 ^ 62)(hz:(jr lo (hi-lo).toNat).length≤16777216)
  (x:Ext F H F1 H1) (q:∀p vs F' H',Ext F H F' H'→H' p=none→Reps X.K F' (jr lo (hi-lo).toNat) vs→Q (.ref p) (upd H' p (.lst vs))) :
  wpAny (model X.prog X.w) X.A (call (.type "list") [.ref s1.heap.objs.size]) (EP X pins σ Q) X.xe { s1 with heap:=s1.heap.push { cls:=.type "range", data:=.fields #[.int lo t,.int hi u,.int 1 v] },toks:=tk }:=by
 have I2:Inv X pins σ H1 { s1 with heap:=s1.heap.push { cls:=.type "range", data:=.fields #[.int lo t,.int hi u,.int 1 v] },toks:=tk }:=I1.kept fun b o e=>get?_push_of_some _ e
 have hl:(jr lo (hi-lo).toNat).length=(hi-lo).toNat:=by simp[jr]
 rw[hl] at hz
 refine call_list_range (n:=(hi-lo).toNat) (I2.ok.hd hc) (IsRange.new ..) (small_one h1 h2 h3 h4) (by rw[rangeSize_one];split <;> lia) (by lia) fun h' tk' acc' c' hk hS' hacc=>?_
 have rel:=M3 hacc
 refine Y22 (.ref _) _ (I2.laid (t':=tk') hk (Nat.le_refl _) (o:=.lst ((List.range (hi-lo).toNat).map fun (k:Nat)=>V.int (lo+k))) ⟨by rw[List.length_map,List.length_range,sizeLine_eq];exact hz,acc'.toList,c',rel,by simpa using hS'⟩) rfl (q _ _ _ _ x (I2.hok.fresh (Nat.le_refl _)) (Tu _ _))
theorem vH{a:Expr}{p p2 pos2:Pos}(hc:X.calm=true)(hl:Gl X "list")(hml:X.mg "list" = none)(hg:Gl X "range")(hm:X.mg "range" = none)(ha:PDA X [a] fs)(hs:starEach [a] X.env=[(false,eval a X.env)]:=by rfl)
  (he:starEach [.Call (.Name "range" p2) [a] [] pos2] X.env=(false,eval (.Call (.Name "range" p2) [a] [] pos2) X.env)::starEach [] X.env:=by rfl) (hpl:(backTo pos (starEach [] X.env)).any (·.1)=false:=by rfl) :
  PDF X (.Call (.Name "list" p) [.Call (.Name "range" p2) [a] [] pos2] [] pos) (uq (vi fs)):=by
 rintro pins s σ H Q I ⟨F,τ,R,h⟩
 refine wpAny_Call_Name_kw (ja I hl hml boot_list ?_)
 refine PyProof.Rows.callWith_type1 ?_ he hpl
 rw[he]
 show wpAny _ _ (spliced ((false,eval (.Call (.Name "range" p2) [a] [] pos2) X.env)::backTo pos (starEach [] X.env))) _ _ s
 refine Calls.spliced_cons ?_
 have h:=h.bind
 unfold vi at h
 have h:=h.bind
 generalize hG:(fun ds=>Ok X (match Qn ds with|some j=>if -(2 ^ 62)≤j∧j<2 ^ 62 then Rs.ok (jr 0 j.toNat) else Rs.no|none=>Rs.no) fun a=>Ok X (if a.length≤16777216 then Rs.ok a else Rs.no) fun ds=>∀(p:Addr) (vs:List V) (F' H':Hp),Ext F H F' H'→H' p=none→Reps X.K F' ds vs→Q (V.ref p) (upd H' p (HO.lst vs)))=G at h
 refine Call_ (ja I hg hm boot_range (PyProof.Rows.callWith_type1 (thn (ha pos2 pins s σ H (fun vs H1=>∃ds F1,G ds∧Ext F H F1 H1∧RV X.K F1 τ σ H1∧Reps X.K F1 ds vs) I (tAs.of R h fun ds vs F1 H1 g x R1 r=>⟨ds,F1,g,x,R1,r⟩)) fun us s1 z_=>?_) hs rfl))
 refine X22 z_ fun vs H1 I1 r1 r49_=>?_;refine X23 r49_ fun ds F1 g x R1 r=>?_
 subst hG
 cases q1:Qn ds with
 |none=>simp only[q1] at g;exact g.elim
 |some j=>
  simp only[q1] at g
  have e:=GA q1
  subst e
  obtain⟨v,rfl,q⟩:=r.one
  simp only[Rep] at q;subst q
  obtain⟨z,g⟩:=yG g
  obtain⟨zl,g⟩:=yG g
  cases r1 with
  |cons ra rr=>
   cases rr
   obtain⟨t,rfl⟩:=ra
   refine call_range_1 ?_
   refine Calls.spliced_nil ?_
   exact Ly hc I1 (by decide) (by decide) z.1 z.2 (by rw[Int.sub_zero];exact zl) x (by rw[Int.sub_zero];exact g)
end
section
open PySem.SeqAt
open PySem.AutoSeq1 (wpAny_loadPart')
open PySem.MeetsSeq PySem.MeetsSeq2 PySem.MeetsSeq3
end
section
variable{X:Cx}
end
section
variable{X:Cx}
end
section
variable{rest:List Expr}{env:Env}
end
noncomputable def Itn(K:Frag)(l:Addr):It:=
 ⟨fun k H=>∃vs,SqL K H l vs∧k<vs.length,
  fun k H y H'=>∃p v,H p=none∧(∀vs,SqL K H l vs→vs[k]?=some v)∧y=.ref p∧H'=upd H p (.tup [.int k,v]),
  fun k H=>∃vs,SqL K H l vs∧vs.length≤k⟩
theorem GZ{P:Program}{w:World}{K:Frag}{elts:List Expr}{x1}{pos:Pos}{e it l:Addr}(D:e≠it) :
  Ux P w K (.Tuple elts x1 pos) (Itn K l) [e,it] e (fun k h=>(∃old,IsEnum h e it (k:Nat) old)∧h.IsListIter it l k) where
 mem:=by simp
 obj:=fun k h ⟨⟨old,h1⟩,⟨o5,e5,c5,d5⟩⟩ b hb=>by
  simp at hb
  rcases hb with rfl|rfl
  ·exact Y11 _ h1 (fun v z=>by nomatch z)
  ·exact Y11 _ e5 (fun v z=>by rw[d5] at z;nomatch z)
 keep:=fun k h h' ⟨⟨old,h1⟩,h5⟩ hk=>⟨⟨old,hk e (by simp) _ h1⟩,h5.at fun o q=>hk it (by simp) o q⟩
 item:=by
  rintro X hP hw hK hc k pins s σ H E I hf ⟨⟨old,h1⟩,h5⟩ hg
  subst hP hw hK
  refine X11 hg fun vs hq l2=>?_
  refine X12 (I.list hq) fun its rv p hz=>?_
  have hlen:=rv.length
  have hvk:vs[k]?=some vs[k]:=by simp[l2]
  refine X11 (rv.get hvk) fun u2 eu ru=>?_
  refine wpAny_pyNext_enum_item (x:=u2) h1 h5 p.isList (by simpa using eu) D fun h' q1 q2 q3 q4 q5=>?_
  have np:s.heap.objs.size≠e:=Nat.ne_of_gt (Heap.lt_size h1)
  refine Y11 _ rfl (wpAny_letOwnedTupleGo_enum (s:={ s with heap:=h',toks:=s.toks+1 }) q1 fun h'' z1 sb=>?_)
  refine⟨.ref s.heap.objs.size,upd H s.heap.objs.size (.tup [.int k,vs[k]]),?_,rfl,⟨_,vs[k],I.hok.fresh (Nat.le_refl _),fun ws hw=>by rw[I.list_inj hw hq];exact hvk,rfl,rfl⟩,⟨⟨_,by simpa using z1⟩,?_⟩,fun b hb=>?_⟩
  ·refine(zb6 (s:=s) (h':=h'') (t':=s.toks+1) (xs:=[.int k,vs[k]]) (ch:=[e,it]) I (fun b o hb q=>?_) hf (Nat.le_refl _) ⟨_,sb.extBut _ _ np q3,rfl,_,rfl⟩ (.cons ⟨_,rfl⟩ (.cons ru .nil)) (by show 2≤sizeLine;decide):Inv X pins σ _ { s with heap:=h'',toks:=s.toks+1 })
   simp at hb
   exact sb.extBut _ _ hb.1 (q5 b o hb.1 hb.2 q)
  ·refine X11 q2 fun o q r=>?_
   exact Y11 o (sb.extBut _ _ (Ne.symm D) q) r
  ·have lt:b<s.heap.objs.size:=by
    simp at hb
    rcases hb with rfl|rfl
    ·exact Heap.lt_size h1
    ·refine X11 h5 fun o q r=>?_
     exact Heap.lt_size q
   rw[zj (Nat.ne_of_lt lt)]
   exact(hf b hb).1
 done:=by
  rintro X hP hw hK hc k pins s σ H E I hf ⟨⟨old,h1⟩,h5⟩ hg
  subst hP hw hK
  refine X11 hg fun vs hq hend=>?_
  refine X12 (I.list hq) fun its rv p hz=>?_
  have hlen:=rv.length
  obtain⟨f0,f1,f2,f3,f4,f5⟩:=hf it (by simp)
  exact wpAny_pyNext_enum_end (I.ok.hd hc) h1 h5 p.isList (by simp;lia) fun h' eb=>⟨rfl,I.turned (t':=s.toks) (fun b o hb q=>eb b o hb q) f0 f1 f3 f4 f5⟩
 self:=fun _ _ _ _ _ ⟨⟨_,h1⟩,_⟩ h=>wpAny_pyIter_enum h1 h
section
variable{X:Cx}{pos:Pos}{e a b:Expr}{es:List Expr}{fe fa fb:FE}{fs:FA}
noncomputable def zt9(K:Frag)(ta:TA):TI:=fun σ H R=>ta σ H fun vs H1=>∃l ws,vs=[.ref l]∧SqL K H1 l ws∧R (Itn K l) H1
theorem ze2{ta:TA}{p:Pos}{elts:List Expr}{x1}{tpos:Pos}(hg:Gl X "enumerate")(hm:X.mg "enumerate" = none)(ha:PA X [a] ta)(hs:starEach [a] X.env=[(false,eval a X.env)]:=by rfl) :
  PI X (.Tuple elts x1 tpos) (.Call (.Name "enumerate" p) [a] [] pos) (zt9 X.K ta):=by
 intro pins s σ H R I h
 refine Call_ (ja I hg hm boot_enumerate (PyProof.Rows.callWith_type1 (thn (ha pos pins s σ H _ I h) fun us s1 z_=>?_) (by rw[hs];rfl) rfl))
 refine X22 z_ fun vs H1 I1 r1 q1=>?_
 refine X22 q1 fun l ws e hq q=>?_
 subst e
 obtain⟨u1,rfl,ru⟩:=vals1 r1
 cases ru
 refine X12 (I1.list hq) fun its rr pp hz=>?_
 refine call_enumerate_list pp.isList fun h' g1 g2 g3 g4=>?_
 have I5:Inv X pins σ H1 { s1 with heap:=h' }:=I1.kept (t':=s1.toks) g4
 refine wpAny_pyIter_enum (s:={ s1 with heap:=h' }) g1 ?_
 refine⟨s1.heap.objs.size+1,[s1.heap.objs.size+1,s1.heap.objs.size],_,_,H1,rfl,I5,GZ (l:=l) (by show(_:Nat)≠_;lia),⟨⟨_,g1⟩,g2⟩,fun b hb=>?_,q⟩
 have hb':s1.heap.objs.size≤b:=by
  simp at hb
  rcases hb with rfl|rfl <;> (show s1.heap.objs.size≤(_:Nat);lia)
 obtain⟨f0,f1,f2,f3,f4,f5⟩:=I1.fpOk (H':=H1) hb' (I1.hok.fresh hb')
 exact⟨f0,f1,f2,f3,f4,f5⟩
noncomputable def xY(n:Nat):List D→List D
 |[]=>[]
 |d::r=>.tup [.int n,d]::xY (n+1) r
theorem Yd:∀(ds:List D) (n:Nat),(xY n ds).length=ds.length:=by
 intro l_
 induction l_ with
 |nil=>
  rintro _
  exact rfl
 |cons _ r ih_=>
  rintro n
  simp[xY,ih_]
theorem Ye:∀{ds:List D} {n i:Nat} {p:D},(xY n ds)[i]?=some p→∃d,ds[i]?=some d∧p=.tup [.int ((n+i:Nat):Int),d]
 |[],_,_,_,h=>by simp[xY] at h
 |d::ds,n,0,p,h=>by simp[xY] at h;exact Y11 d rfl (by simpa using h.symm)
 |d::ds,n,i+1,p,h=>by
  refine X11 (Ye (n:=n+1) (i:=i) (by simpa[xY] using h)) fun d' h2 h3=>?_
  exact Y11 d' (by simpa using h2) (by rw[h3];congr 3;show((n+1+i:Nat):Int)=_;congr 1;lia)
theorem zi4{K:Frag}{F1:Hp}{l:Addr}{ds:List D}{vs:List V}(e:SqL K F1 l vs)(r:Reps K F1 ds vs):QG K (Itn K l) F1 (xY 0 ds):=fun i F H f1 f2=>by
 have q:SqL K H l vs:=(f1.trans f2).seq e
 have hl:=Yd ds 0
 have hr:=r.length
 refine⟨fun h=>⟨vs,q,by lia⟩,fun p hp=>?_⟩
 obtain⟨d,h2,rfl⟩:=Ye hp
 have l2:i<vs.length:=by have:=(List.getElem?_eq_some_iff.mp h2).1;lia
 refine⟨⟨vs,q,l2⟩,fun y H' yy=>?_⟩
 obtain⟨pa,v,hp,q',rfl,rfl⟩:=yy
 refine Y11 (upd F pa (.tup [.int i,v])) (Ext.new f2 hp) ?_
 simp only[Rep]
 refine Y22 pa _ rfl (SqT.of zp) (Reps.cons (by simp only[Rep,Nat.zero_add]) (Reps.cons ?_ Reps.nil))
 refine X11 (r.get h2) fun v' hv' rv'=>?_
 have e3:=q' vs q
 rw[hv'] at e3;replace e3:=sJ_ e3;subst e3
 exact(rv'.mono f1).mono (yq (zF f2 hp))
noncomputable def zh0:List D→Option (List D)
 |[.lst ds]=>some ds
 |_=>none
theorem zg9{ds xs:List D}(h:zh0 ds=some xs):ds=[.lst xs]:=by
 unfold zh0 at h;split at h <;> cases h;rfl
noncomputable def iEn(fs:FA):FA:=fun τ=>(fs τ).bind fun ds=>match zh0 ds with
 |some xs=>.ok (xY 0 xs)
 |none=>.no
theorem TZ{p:Pos}{elts:List Expr}{x1}{tpos:Pos}(hg:Gl X "enumerate")(hm:X.mg "enumerate" = none)(ha:PDA X [a] fs)(hs:starEach [a] X.env=[(false,eval a X.env)]:=by rfl) :
  PDI X (.Tuple elts x1 tpos) (.Call (.Name "enumerate" p) [a] [] pos) (iEn fs):=
 PI.imp (ze2 hg hm ha hs) fun σ H R z_=>by
  refine X21 z_ fun F τ Rv h=>?_
  refine tAs.of Rv h.bind fun ds vs F1 H1 g x R1 r=>?_
  cases q1:zh0 ds with
  |none=>rw[q1] at g;exact g.elim
  |some xs=>
   rw[q1] at g
   have e:=zg9 q1
   subst e
   obtain⟨v,rfl,r1⟩:=r.one
   simp only[Rep] at r1
   obtain⟨l,ws,rfl,e1,t⟩:=r1
   exact Y22 l ws rfl (SqL.of (R1.fh _ _ e1)) (g _ F1 H1 x (zi4 (SqL.of e1) t))
end
section
variable{X:Cx}{pins:List (Addr×Obj)}{σ:St}{H:Hp}{s:Shared}{h':Heap}
end
section
variable{X:Cx}{pins:List (Addr×Obj)}{σ:St}{H:Hp}{s:Shared}{h':Heap}{a:Addr}{cls:Value}
variable{M:Model}{A:Around}{E:Value→Shared→Prop}{Q:Unit→Shared→Prop}
theorem np(b:Addr):∀p∈([]:List (Addr×Obj)),p.1≠b:=fun p hp=>nomatch hp
end
section
variable{P:Program}{w:World}{K:Frag}{mg:Str→Option Value}{base:Heap}
end
section
variable{X:Cx}{pos:Pos}{e:Expr}{es:List Expr}{fe:FE}{fs:FA}{st:Stmt}
end
section
variable{P:Program}{w:World}{K:Frag}{mg:Str→Option Value}{base:Heap}
end
section
variable{X:Cx}{pins:List (Addr×Obj)}{σ:St}{H:Hp}{s:Shared}{a:Addr}{cls:Value}
end
section
variable{prog:Program}{w:World}{A:Around}{E:Value→Shared→Prop}{K:Frag}{x C:Addr}
end
section
variable{X:Cx}{pos:Pos}{a b:Expr}{fa:FE}
end
section
variable{X:Cx}{pos:Pos}{e:Expr}{es:List Expr}{fs:FA}{st:Stmt}
end
section
variable{X:Cx}{pos:Pos}{e a b:Expr}{es:List Expr}{fe fa fb:FE}{fs:FA}
end
section
variable{X:Cx}{pos:Pos}{e a b:Expr}{es:List Expr}{fe fa fb:FE}{fs:FA}
end
section
variable{P:Program}{w:World}{K:Frag}{mg:Str→Option Value}{base:Heap}
end
section
variable{X:Cx}{pos:Pos}{e:Expr}{es:List Expr}{fe:FE}{fs:FA}
end
section
variable{X:Cx}{scope:Scope}{N':List Str}
end
section
variable{X:Cx}{scope:Scope}{N':List Str}{tg iter elt:Expr}{ifs:List Expr}{pos:Pos}{wi:TI}{g:TG}{ti:TT}{te:TE}{s0:St→St}
end
section
variable{X:Cx}{scope:Scope}{tn fr:List Str}{idx:List Nat}{tg iter elt:Expr}{ifs:List Expr}{pos:Pos}{fi:FA}{set:FG}{ft:FT}{fe:FE}
end
section
variable{X:Cx}{tg:Expr}
end
section
variable{X:Cx}{pos:Pos}{e tg:Expr}{es:List Expr}{fe:FE}{fs:FA}
end
section
variable{P:Program}{w:World}{K:Frag}{mg:Str→Option Value}{base:Heap}
end
section
variable{X:Cx}{pos:Pos}{e:Expr}{es:List Expr}{fe:FE}{fs:FA}
end
section
variable{X:Cx}{pins:List (Addr×Obj)}{σ:St}{H:Hp}{s:Shared}{a:Addr}{cls:Value}
end
section
variable{X:Cx}{pos:Pos}{e a b:Expr}{es:List Expr}{fe fa fb:FE}{fs:FA}
end
section
variable{X:Cx}{tg:Expr}
end
section
variable{X:Cx}{pos:Pos}{e tg:Expr}{es:List Expr}{fe:FE}{fs:FA}
end
section
variable{X:Cx}{pos:Pos}{e a b:Expr}{es:List Expr}{fe fa fb:FE}{fs:FA}
end
noncomputable def BM(mg:Str→Option Value)(base:Heap):Prop:=∃bm o,mg "__builtins__" = some (.ref bm)∧bm≠builtinsNs∧base.get? bm=some o∧o.cls=.type "module" ∧ o.dict=some builtinsNs∧o.data=.plain
noncomputable def zn1(ts:List Addr)(H:Hp):Prop:=∀b,H b=none∨(∃o xs,H b=some (.frz o (.lst xs)))∨(b∈ts∧H b=some (.tbl #[]))
theorem MG{P:Program}{w:World}{K:Frag}{mg mb:Str→Option Value}{CX:CXT}{k:Nat}{fa a:Addr}{fd:FuncData}{x:Str}{sp:Sp}{s₁:Shared}{vs:List Value}{ns:List Int}{ts:List Addr}
  (KX:K.In s₁.heap) (hns:s₁.heap.Ns mainGlobals mg) (hb:s₁.heap.Ns builtinsNs mb) (hbb:∀x:Str,x ≠ "__name__" → mb x=bootBuiltins x) (hlim:s₁.heap.NoLimit) (hg:s₁.gens = #[])
  (ha:s₁.heap.get? a=some { cls:=.type "list", data:=.seq vs.toArray }) (hi:IntsAre vs ns) (hl:ns.length≤sizeLine) (hr:Room k callerA)
  (tb:∀p∈ts,K.lookup p=none∧s₁.heap.get? p=some (PySem.W.tabObj #[])∧isCodeTable s₁.heap p)
  (hbm:BM mg s₁.heap) (F:∀base:Heap,K.In base→base.Ns mainGlobals mg→BM mg base→FnOk P w K mg base CX k fa fd [x] sp) (hbind:∀(s:Shared) (u:Value),BindsTo s fd ⟨[u],[]⟩ [(x,u)])
  (hsp:∀H F:Hp,zn1 ts H→Same F H→(∀p∈ts,F p=none∧H p=some (.tbl #[]))→SqL K F a (ns.map V.int)→sp [.ref a] H (fun v H'=>v=.bl true) fun _ _ _=>False)
  (hCX:∀H e s',CX [] H s₁ (fun _ _ _=>False) e s'→False) :
  codeAny (model P w) callerA (.call (.ref fa) ⟨[.ref a],[]⟩) (fun r s'=>r=.ok (.ret (.bool true))∧OldK s₁.heap s'.heap∧s'.os=s₁.os∧AllBare s'.gens) s₁:=by
 have rv:=vals_ints hi
 have lenV:=hi.length
 have nat:a∉ts:=fun z=>by
  refine X02 (tb a z) fun _ e _=>?_
  rw[ha] at e;cases e
 have core:∀H F:Hp,zn1 ts H→Same F H→(∀p∈ts,F p=none∧H p=some (.tbl #[]))→SqL K F a (ns.map V.int)→HOk P w H s₁.heap→(∀b,H b≠none→b=a∨b∈ts)→(H a≠none→K.lookup a=none) →
   codeAny (model P w) callerA (.call (.ref fa) ⟨[.ref a],[]⟩) (fun r s'=>r=.ok (.ret (.bool true))∧OldK s₁.heap s'.heap∧s'.os=s₁.os∧AllBare s'.gens) s₁:=by
  intro H Fz hO fh hT hS hok hA hK
  have base_of:∀{b:Addr} {o:Obj},s₁.heap.get? b=some o→H b=none→(WQ s₁.heap H).get? b=some o:=fun e n=>LQ e n
  have noA:∀{b:Addr} {o:Obj} {es:Array DictEntry} {ep:Nat},s₁.heap.get? b=some o→o.data=.dict es ep→H b=none:=fun {b o es ep} e d=>by
   cases q:H b with
   |none=>rfl
   |some u=>
    rcases hA b (by rw[q];simp) with e' | e'
    ·subst e'
     rw[ha] at e;replace e:=sI_ e;subst e
     have d':Data.seq vs.toArray _=Data.dict es ep:=d
     nomatch d'
    ·refine X02 (tb b e') fun _ e2 _=>?_
     rw[e] at e2;replace e2:=sJ_ e2;subst e2
     nomatch d
  have nsK:∀{b:Addr} {m:Str→Option Value},s₁.heap.Ns b m→(WQ s₁.heap H).Ns b m:=fun {b m} ⟨o,es,ep,e,d,r⟩=>⟨o,es,ep,base_of e (noA e d),d,r⟩
  have hKb:K.In (WQ s₁.heap H):=fun b o e=>base_of (KX b o e) (by
   cases q:H b with
   |none=>rfl
   |some u=>
    rcases hA b (by rw[q];simp) with e' | e'
    ·subst e'
     rw[hK (by rw[q];simp)] at e;nomatch e
    ·rw[(tb b e').1] at e;nomatch e)
  have hM:Mod K mg (WQ s₁.heap H):=⟨hKb,nsK hns,⟨mb,nsK hb,hbb⟩,let ⟨mc,h1,h2⟩:=hlim;⟨mc,nsK h1,h2⟩⟩
  have e0:Env0 P w K mg (WQ s₁.heap H) callerA [] s₁ H:=⟨rfl,hM,fun b o e=>zg0 e,Nat.le_of_eq (MN _ _),trivial,fun b hb=>absurd (show b∈([]:List Addr) from hb) (by simp),hok,.of_eq hg⟩
  have hbb:BM mg (WQ s₁.heap H):=by
   obtain⟨bm,o,b1,b2,b3,b4,b5,b6⟩:=hbm
   refine⟨bm,o,b1,b2,base_of b3 ?_,b4,b5,b6⟩
   cases q:H bm with
   |none=>rfl
   |some u=>
    rcases hA bm (by rw[q];simp) with e' | e'
    ·subst e'
     rw[ha] at b3;replace b3:=sI_ b3;subst b3;nomatch b6
    ·refine X02 (tb bm e') fun _ e2 _=>?_
     rw[b3] at e2;replace e2:=sJ_ e2;subst e2;nomatch b6
  refine codeAny_mono ((F _ hKb (nsK hns) hbb).run callerA [] s₁ H ⟨[.ref a],[]⟩ [.ref a] [.ref a] _ _ hr e0 (hbind s₁ (.ref a)) (.cons rfl .nil) (hsp H Fz hO fh hT hS)) fun r s' h=>?_
  cases r with
  |error e=>exact(hCX H e s' h).elim
  |ok fl=>
   cases fl with
   |next=>exact False.elim h
   |brk=>exact False.elim h
   |cont=>exact False.elim h
   |ret u=>
    obtain⟨v,H',os,bare,un,hok',r',q'⟩:=h
    subst q'
    obtain rfl:u=Value.bool true:=r'
    have was:∀b o,s₁.heap.get? b=some o→asItWas s₁.heap s'.heap b o:=fun b o e=>by
     cases q:H b with
     |none=>exact .inl (un.keep b o e q (by intro z;exact absurd (show b∈([]:List Addr) from z) (by simp)) (by simp))
     |some u=>
      rcases hO b with z|⟨ob,xs,z⟩|⟨hb,z⟩
      ·rw[q] at z;nomatch z
      ·have z2:=un.frzs b ob _ z
       obtain⟨e1,_⟩:=hok b _ z
       obtain⟨e2,_⟩:=hok' b _ z2
       rw[e] at e1;replace e1:=sI_ e1;subst e1
       exact .inl e2
      ·obtain⟨more,z2⟩:=un.tbls b _ z
       have e2:s'.heap.get? b=some { cls:=.none,data:=.fields (#[]++more) }:=hok' b _ z2
       refine X02 (tb b hb) fun _ e3 e4=>?_
       rw[e] at e3;replace e3:=sJ_ e3;subst e3
       exact .inr (.inl ⟨e4,rfl,#[],more,rfl,e2⟩)
    refine⟨rfl,⟨was,fun b o e=>?_⟩,os,bare⟩
    obtain⟨o',e'⟩:=un.there b o e (by simp)
    exact⟨o',e'⟩
 cases hk:K.lookup a with
 |some o=>
  have e:=KX a o hk
  rw[ha] at e
  replace e:=sI_ e;subst e
  refine core (fun b=>if b∈ts then some (.tbl #[]) else none) (fun _=>none) (fun b=>?_) (fun _ _ z=>nomatch z) (fun p hp=>⟨rfl,if_pos hp⟩) (.inr ⟨_,vs.toArray,_,hk,rfl,rfl,rfl,by rw[List.size_toArray,lenV];exact hl,by simpa using rv⟩) (fun b u z=>?_) (fun b z=>?_) fun z=>absurd (if_neg nat) z
  ·by_cases h:b∈ts
   ·exact .inr (.inr ⟨h,if_pos h⟩)
   ·exact .inl (if_neg h)
  ·by_cases h:b∈ts
   ·have z':=(if_pos h).symm.trans z
    replace z':=sI_ z';subst z'
    exact(tb b h).2.1
   ·have z':=(if_neg h).symm.trans z
    nomatch z'
  ·by_cases h:b∈ts
   ·exact .inr h
   ·exact absurd (if_neg h) z
 |none=>
  refine core (fun b=>if b∈ts then some (.tbl #[]) else if b=a then some (.frz { cls:=.type "list", data:=.seq vs.toArray } (.lst (ns.map V.int))) else none) (fun b=>if b=a then some (.frz { cls:=.type "list", data:=.seq vs.toArray } (.lst (ns.map V.int))) else none) (fun b=>?_) (fun b o z=>?_) (fun p hp=>⟨if_neg (fun z:p=a=>nat (z ▸ hp)),if_pos hp⟩) (.inl (.inr ⟨{ cls:=.type "list", data:=.seq vs.toArray },if_pos rfl⟩)) (fun b u z=>?_) (fun b z=>?_) fun _=>hk
  ·by_cases h:b∈ts
   ·exact .inr (.inr ⟨h,if_pos h⟩)
   ·by_cases hb:b=a
    ·exact .inr (.inl ⟨_,_,(if_neg h).trans (if_pos hb)⟩)
    ·exact .inl ((if_neg h).trans (if_neg hb))
  ·by_cases hb:b=a
   ·have z':=(if_pos hb).symm.trans z
    replace z':=sI_ z';subst z'
    subst hb
    exact(if_neg nat).trans (if_pos rfl)
   ·have z':=(if_neg hb).symm.trans z
    nomatch z'
  ·by_cases h:b∈ts
   ·have z':=(if_pos h).symm.trans z
    replace z':=sI_ z';subst z'
    exact(tb b h).2.1
   ·have z1:=(if_neg h).symm.trans z
    by_cases hb:b=a
    ·have z':=(if_pos hb).symm.trans z1
     replace z':=sI_ z';subst z'
     subst hb
     exact⟨ha,by rw[List.length_map];exact hl,vs,_,rv,ha⟩
    ·have z':=(if_neg hb).symm.trans z1
     nomatch z'
  ·by_cases h:b∈ts
   ·exact .inr h
   ·by_cases hb:b=a
    ·exact .inl hb
    ·exact absurd ((if_neg h).trans (if_neg hb)) z
theorem Jc{K:Frag}{p:Addr}(h:p∉K.map (·.1)):K.lookup p=none:=by
 rw[show K.lookup p=List.lookup p K from rfl,List.lookup_eq_none_iff]
 intro q hq
 simp only[bne_iff_ne,ne_eq,beq_eq_false_iff_ne]
 intro z
 exact h (List.mem_map.mpr ⟨q,hq,z.symm⟩)
noncomputable def zb2(K:Frag):Prop:=∀r∈Tabs.rows,∃c,PySem.W.codeHdIn K c r.1=true
theorem walkM{l:PySem.W.OpenLaw}{q:Program}{loose:List Str}{XP:(Str→Option Value)→Heap→Prop}{d:DefRec}{K:Params→Frag}{k:Nat}{p:Str}{as ts:List Addr}{has:∀P,as=(K P).map (·.1)}(hn:l.most=some 63)(hdf:d.params.defaults=[])(hk:Room k callerA)
  (hts:(Tabs.rows.all fun r=>ts.contains r.1 && !as.contains r.1)=true)
  (F:∀(w:World) (mg:Str→Option Value) (fa:Addr) (h:Heap),(K w.params).In h→h.Ns mainGlobals mg→mg d.name=some (.ref fa)→zb2 (K w.params) ∧
   ∃fd:FuncData,(∀(s:Shared) (u:Value),BindsTo s fd ⟨[u],[]⟩ [(p,u)])∧∀base:Heap,(K w.params).In base→base.Ns mainGlobals mg→BM mg base→FnOk l.prog w (K w.params) mg base CX0 k fa fd [p] (QN (K w.params))) :
  PySem.W.WalkO q loose XP (PySem.W.kmHook K as has ts).says l.row.toRowW d [] (fun f vs=>PySem.call f vs):=by
 refine Att.attach_call hn hdf fun w s₀ s₁ mg mb fa o pm cd doc a vs ns G Y ho hd hcd hmg hobj hints hlen hg=>?_
 have KX:=PySem.W.km_in_of Y
 have hT:=PySem.W.km_tabs_of Y
 refine X01 (F w mg fa _ KX G.T.g hmg) fun tin r50_=>?_;refine X11 r50_ fun fd hb hF=>?_
 refine MG (ts:=Tabs.rows.map (·.1)) (CX:=CX0) (sp:=QN (K w.params)) KX G.T.g G.T.b G.T.builtins G.T.nolimit hg hobj hints (Nat.le_trans hlen (by decide)) hk (fun p hp=>?_) ?_ hF hb (fun H Fz hO fh hT hS=>⟨a,ns,Fz,rfl,fh,⟨fun r hr=>?_,fun d b e=>(by rcases hO d with z|⟨_,_,z⟩|⟨_,z⟩ <;> (rw[z] at e;cases e))⟩,hS,hlen,fun _=>rfl⟩) fun H e s' z=>z
 ·obtain⟨r,hr,rfl⟩:=List.mem_map.mp hp
  have z:=List.all_eq_true.mp hts r hr
  rw[Bool.and_eq_true] at z
  have hp':=hT r.1 (by simpa using z.1)
  obtain⟨c,hc⟩:=tin r hr
  refine⟨Jc (by rw[← has];simpa using z.2),hp',?_⟩
  exact((PySem.W.codeHd_of_K KX hc).tab hp').isCodeTable
 ·obtain⟨bm,ob,b1,b2,b3,b4,b5,b6⟩:=G.T.bmain
  exact⟨bm,ob,b1,b2,b3,b4,b5,b6⟩
 ·obtain⟨h1,h2⟩:=hT r.1 (List.mem_map.mpr ⟨r,hr,rfl⟩)
  exact⟨h1,.inl h2⟩
open PySem.W
noncomputable def lxI:List Int→List Int→Bool
 |[],[]=>false
 |[],_::_=>true
 |_::_,[]=>false
 |a::x,b::y=>if a=b then lxI x y else decide (a<b)
theorem X5:∀x:List Int,lxI x x=false:=by
 intro l_
 induction l_ with
 |nil=>
  exact rfl
 |cons a x ih_=>
  rw[lxI,if_pos rfl];exact ih_
theorem Gp:∀x y:List Int,lxI x y=false→lxI y x=false→x=y
 |[],[],_,_=>rfl
 |[],_::_,h,_=>by simp[lxI] at h
 |_::_,[],_,h=>by simp[lxI] at h
 |a::x,b::y,h1,h2=>by
  rw[lxI] at h1 h2
  by_cases e:a=b
  ·subst e
   rw[if_pos rfl] at h1 h2
   rw[Gp x y h1 h2]
  ·rw[if_neg e] at h1
   rw[if_neg (Ne.symm e)] at h2
   simp only[decide_eq_false_iff_not] at h1 h2
   lia
theorem vo:∀x y z:List Int,lxI x y=true→lxI y z=true→lxI x z=true
 |[],[],_,h,_=>by simp[lxI] at h
 |_::_,[],_,h,_=>by simp[lxI] at h
 |_,_::_,[],_,h=>by simp[lxI] at h
 |[],_::_,_::_,_,_=>rfl
 |a::x,b::y,c::z,h1,h2=>by
  rw[lxI] at h1 h2 ⊢
  by_cases e:a=b
  ·subst e
   rw[if_pos rfl] at h1
   by_cases e2:a=c
   ·subst e2;rw[if_pos rfl] at h2 ⊢;exact vo x y z h1 h2
   ·rw[if_neg e2] at h2 ⊢;exact h2
  ·rw[if_neg e] at h1
   simp only[decide_eq_true_eq] at h1
   by_cases e2:b=c
   ·subst e2;rw[if_neg e];simpa using h1
   ·rw[if_neg e2] at h2
    simp only[decide_eq_true_eq] at h2
    rw[if_neg (by lia)];simp only[decide_eq_true_eq];lia
theorem Vl{x y:List Int}(h:lxI x y=true):lxI y x=false:=by
 cases q:lxI y x with
 |false=>rfl
 |true=>have:=vo x y x h q;rw[X5] at this;nomatch this
theorem Xm{x y:List Int}(h:lxI x y=false)(n:x≠y):lxI y x=true:=by
 cases q:lxI y x with
 |true=>rfl
 |false=>exact absurd (Gp x y h q) n
noncomputable def Pw{α:Type}(lt:Nat→Nat→Bool)(n:Nat):KasT α→(α→Prop)→Prop
 |.ret a,G=>G a
 |.ask i j k,G=>i<n∧j<n∧Pw lt n (k (lt i j)) G
section
variable{lt:Nat→Nat→Bool}{n:Nat}
theorem Tw{α:Type}{t u:KasT α}{G:α→Prop}(h:Pw lt n t G):Pw lt n (if true=true then t else u) G:=by rw[if_pos rfl];exact h
theorem zo0{α:Type}{t u:KasT α}{G:α→Prop}(h:Pw lt n u G):Pw lt n (if false=true then t else u) G:=by rw[if_neg (by simp)];exact h
theorem Pw.bind{α β:Type}{f:α→KasT β}{G:β→Prop}:∀(t:KasT α),Pw lt n t (fun a=>Pw lt n (f a) G)→Pw lt n (t.bind f) G
 |.ret _,h=>h
 |.ask i j k,h=>⟨h.1,h.2.1,Pw.bind (k (lt i j)) h.2.2⟩
theorem Pw.mono{α:Type}{G G':α→Prop}(hg:∀a,G a→G' a):∀(t:KasT α),Pw lt n t G→Pw lt n t G'
 |.ret a,h=>hg a h
 |.ask i j k,h=>⟨h.1,h.2.1,Pw.mono hg (k (lt i j)) h.2.2⟩
theorem Pw.wp{α:Type}{cmp:Nat→Nat→(Bool→Shared→Prop)→Shared→Prop}{s:Shared}(hc:∀(i j:Nat) (C:Bool→Shared→Prop),i<n→j<n→C (lt i j) s→cmp i j C s){G:α→Prop}{Q:α→Shared→Prop}(hq:∀a,G a→Q a s) :
  ∀(t:KasT α),Pw lt n t G→t.kasWp cmp Q s
 |.ret a,h=>hq a h
 |.ask i j k,h=>hc i j _ h.1 h.2.1 (Pw.wp hc hq (k (lt i j)) h.2.2)
end
section
variable{n:Nat}{κ:Nat→List Int}{p:Array Nat}
noncomputable abbrev ltK(κ:Nat→List Int)(i j:Nat):Bool:=lxI (κ i) (κ j)
noncomputable abbrev gK(κ:Nat→List Int)(p:Array Nat)(k:Nat):List Int:=κ (p.getD k 0)
noncomputable abbrev PmK(n:Nat)(p:Array Nat):Prop:=p.toList.Perm (List.range n)
theorem wP{p:Array Nat}(k:Nat):p.getD k 0=(p[k]?).getD 0:=by simp
theorem Xg(h:PmK n p):p.size=n:=by have:=h.length_eq;simpa using this
theorem jj(h:PmK n p)(hn:0<n)(k:Nat):p.getD k 0<n:=by
 rw[wP]
 cases q:p[k]? with
 |none=>exact hn
 |some v=>
  have hv:v∈p.toList:=by
   have q':p.toList[k]?=some v:=by rw[← q];simp
   exact List.mem_of_getElem? q'
  have:=h.mem_iff.mp hv
  simpa using this
theorem zo5(h:PmK n p){i j:Nat}(hi:i<n)(hj:j<n)(hij:i≠j):p.getD i 0≠p.getD j 0:=by
 have nd:p.toList.Nodup:=h.symm.nodup List.nodup_range
 have sz:=Xg h
 have key:∀a b:Nat,a<b→b<n→p.getD a 0≠p.getD b 0:=fun a b hab hb=>by
  have ha':a<p.toList.length:=by simp[sz];lia
  have hb':b<p.toList.length:=by simp[sz];lia
  have:=List.pairwise_iff_getElem.mp nd a b ha' hb' hab
  rw[wP,wP]
  have ea:p[a]?=some p.toList[a]:=by rw[getElem_toList];exact getElem?_eq_getElem _
  have eb:p[b]?=some p.toList[b]:=by rw[getElem_toList];exact getElem?_eq_getElem _
  rw[ea,eb]
  exact this
 rcases Nat.lt_or_ge i j with z|z
 ·exact key i j z hj
 ·exact(key j i (by lia) hi).symm
noncomputable def Srt(κ:Nat→List Int)(p:Array Nat)(a:Nat):Prop:=∀i j,i<j→j<a→lxI (gK κ p i) (gK κ p j)=true
noncomputable def Dsc(κ:Nat→List Int)(p:Array Nat)(a:Nat):Prop:=∀i j,i<j→j<a→lxI (gK κ p j) (gK κ p i)=true
variable(inj:∀i j,i<n→j<n→κ i=κ j→i=j)
include inj
theorem zu2(h:PmK n p){i j:Nat}(hi:i<n)(hj:j<n)(hij:i≠j):gK κ p i≠gK κ p j:=fun e=>
 zo5 h hi hj hij (inj _ _ (jj h (by lia) i) (jj h (by lia) j) e)
theorem Tg(h:PmK n p){a:Nat}(hs:Srt κ p a)(h1:1≤a)(ha:a<n)(e:lxI (gK κ p a) (gK κ p (a-1))=false):Srt κ p (a+1):=fun i j hij hj=>by
 rcases Nat.lt_or_ge j a with z|z
 ·exact hs i j hij z
 ·obtain rfl:j=a:=by lia
  have l:=Xm e (zu2 inj h ha (by lia) (by lia))
  by_cases hi:i=j-1
  ·subst hi;exact l
  ·exact vo _ _ _ (hs i (j-1) (by lia) (by lia)) l
omit inj in
theorem JF{a:Nat}(hs:Dsc κ p a)(h1:1≤a)(e:lxI (gK κ p a) (gK κ p (a-1))=true):Dsc κ p (a+1):=fun i j hij hj=>by
 rcases Nat.lt_or_ge j a with z|z
 ·exact hs i j hij z
 ·obtain rfl:j=a:=by lia
  by_cases hi:i=j-1
  ·subst hi;exact e
  ·exact vo _ _ _ e (hs i (j-1) (by lia) (by lia))
theorem QD(hp:PmK n p):∀(f a:Nat),1≤a→a+f≤n→Srt κ p a →
  Pw (ltK κ) n (kas_asc p f a) fun m=>a≤m∧m≤a+f∧Srt κ p m∧(m<a+f→lxI (gK κ p m) (gK κ p (m-1))=true):=by
 intro l_
 induction l_ with
 |zero=>
  rintro a h1 h2 hs
  exact⟨Nat.le_refl _,Nat.le_refl _,hs,fun z=>absurd z (Nat.lt_irrefl _)⟩
 |succ f ih_=>
  rintro a h1 h2 hs
  unfold kas_asc
  refine⟨jj hp (by lia) _,jj hp (by lia) _,?_⟩
  cases e:ltK κ (p.getD a 0) (p.getD (a-1) 0) with
  |true=>
   refine Tw ?_
   exact⟨Nat.le_refl _,by lia,hs,fun _=>e⟩
  |false=>
   refine zo0 ?_
   refine Pw.mono (fun m ⟨q1,q2,q3,q4⟩=>⟨by lia,by lia,q3,fun z=>q4 (by lia)⟩) _ (ih_ (a+1) (by lia) (by lia) (Tg inj hp hs h1 (by lia) e))
theorem GN(hp:PmK n p):∀(f a:Nat),1≤a→a+f≤n→Dsc κ p a →
  Pw (ltK κ) n (kas_desc f p a 0) fun r=>r.1=p∧r.2.2=0∧a≤r.2.1∧r.2.1≤a+f∧Dsc κ p r.2.1:=by
 intro l_
 induction l_ with
 |zero=>
  rintro a h1 h2 hs
  exact⟨rfl,rfl,Nat.le_refl _,Nat.le_refl _,hs⟩
 |succ f ih_=>
  rintro a h1 h2 hs
  unfold kas_desc
  refine⟨jj hp (by lia) _,jj hp (by lia) _,?_⟩
  cases e:ltK κ (p.getD a 0) (p.getD (a-1) 0) with
  |true=>
   refine Tw ?_
   rw[if_neg (by lia)]
   refine Pw.mono (fun m ⟨q1,q2,q3,q4,q5⟩=>⟨q1,q2,by lia,by lia,q5⟩) _ (ih_ (a+1) (by lia) (by lia) (JF hs h1 e))
  |false=>
   refine zo0 ?_
   refine⟨jj hp (by lia) _,jj hp (by lia) _,?_⟩
   have e2:ltK κ (p.getD (a-1) 0) (p.getD a 0)=true:=Xm e (zu2 inj hp (by lia) (by lia) (by lia))
   rw[e2]
   refine Tw ?_
   exact⟨rfl,rfl,Nat.le_refl _,Nat.le_add_right _ _,hs⟩
omit inj in
theorem zm3(hp:PmK n p){m:Nat}(hm:m≤n)(k:Nat):gK κ (kas_rev p 0 m) k=if k<m then gK κ p (m-1-k) else gK κ p k:=by
 unfold gK
 rw[wP,show(kas_rev p 0 m)[k]?=_ from getElem?_mirror_all (by rw[Xg hp];exact hm) k]
 by_cases z:k<m
 ·rw[if_pos ⟨Nat.zero_le _,z⟩,if_pos z,← wP,Nat.zero_add]
 ·rw[if_neg (fun y=>z y.2),if_neg z,← wP]
omit inj in
theorem TH(hp:PmK n p)(i j:Nat):PmK n (kas_rev p i j):=(Array.perm_iff_toList_perm.mp (mirror_perm p i j ((j-i) / 2))).trans hp
omit inj in
theorem zc0(hp:PmK n p){m:Nat}(hm:m≤n)(hd:Dsc κ p m):Srt κ (kas_rev p 0 m) m:=fun i j hij hj=>by
 rw[zm3 hp hm,zm3 hp hm,if_pos (by lia),if_pos hj]
 exact hd _ _ (by lia) (by lia)
theorem Td(hp:PmK n p){m:Nat}(h1:1≤m)(hm:m≤n)(hd:Dsc κ p m):Pw (ltK κ) n (kas_tail3 m n p) fun r=>PmK n r.2∧1≤r.1∧r.1≤n∧Srt κ r.2 r.1:=by
 unfold kas_tail3
 refine Pw.bind _ (Pw.mono (fun m' z_=>?_) _ (QD inj (TH hp 0 m) (n-m) m h1 (by lia) (zc0 hp hm hd)))
 refine X03 z_ fun q1 q2 q3 q4=>?_
 exact⟨TH hp 0 m,by lia,by lia,q3⟩
theorem L9(hp:PmK n p)(hn:2≤n):Pw (ltK κ) n (kas_count n p) fun r=>PmK n r.2∧1≤r.1∧r.1≤n∧Srt κ r.2 r.1:=by
 unfold kas_count
 refine Pw.bind _ (Pw.mono (fun m z_=>?_) _ (QD inj hp (n-1) 1 (Nat.le_refl _) (by lia) fun i j hij hj=>by lia))
 refine X03 z_ fun q1 q2 q3 q4=>?_
 by_cases e:m=n
 ·rw[if_pos (by simpa using e)]
  exact⟨hp,by lia,by lia,q3⟩
 ·rw[if_neg (by simpa using e)]
  have l:=q4 (by lia)
  by_cases z:m > 1
  ·rw[if_pos z]
   refine⟨jj hp (by lia) _,jj hp (by lia) _,?_⟩
   have:ltK κ (p.getD 0 0) (p.getD (m-1) 0)=true:=q3 0 (m-1) (by lia) (by lia)
   rw[this]
   refine Tw ?_
   exact⟨hp,by lia,by lia,q3⟩
  ·rw[if_neg z]
   obtain rfl:m=1:=by lia
   unfold kas_descPart
   have d1:Dsc κ p 1:=fun i j hij hj=>by lia
   refine Pw.bind _ (Pw.mono (fun r z_=>?_) _ (GN inj hp (n-(1+1)) (1+1) (by lia) (by lia) (JF d1 (Nat.le_refl _) l)))
   obtain⟨r1,r2,r3,r4,r5⟩:=z_
   rw[if_neg (by lia),r1]
   exact Td inj hp (by lia) (by lia) r5
theorem XF(hp:PmK n p){k:Nat}(hk:k<n)(hs:Srt κ p k):∀(f l r:Nat),l≤r→r≤k→r-l≤f→(∀i,i<l→lxI (gK κ p i) (gK κ p k)=true)→(∀i,r≤i→i<k→lxI (gK κ p k) (gK κ p i)=true) →
  Pw (ltK κ) n (kas_place p k f l r) fun m=>m≤k∧(∀i,i<m→lxI (gK κ p i) (gK κ p k)=true)∧(∀i,m≤i→i<k→lxI (gK κ p k) (gK κ p i)=true):=by
 intro l_
 induction l_ with
 |zero=>
  rintro l r h1 h2 h3 h4 h5
  obtain rfl:l=r:=by lia
  exact⟨h2,h4,h5⟩
 |succ f ih_=>
  rintro l r h1 h2 h3 h4 h5
  unfold kas_place
  by_cases z:l ≥ r
  ·rw[if_pos z]
   obtain rfl:l=r:=by lia
   exact⟨h2,h4,h5⟩
  ·rw[if_neg z]
   refine⟨jj hp (by lia) _,jj hp (by lia) _,?_⟩
   cases e:ltK κ (p.getD k 0) (p.getD ((l+r) / 2) 0) with
   |true=>
    refine Tw ?_
    refine ih_ l ((l+r) / 2) (by lia) (by lia) (by lia) h4 fun i hi hik=>?_
    by_cases q:i=(l+r) / 2
    ·subst q;exact e
    ·exact vo _ _ _ e (hs _ i (by lia) hik)
   |false=>
    refine zo0 ?_
    refine ih_ ((l+r) / 2+1) r (by lia) (by lia) (by lia) (fun i hi=>?_) h5
    have e2:=Xm e (zu2 inj hp hk (by lia) (by lia))
    by_cases q:i=(l+r) / 2
    ·subst q;exact e2
    ·exact vo _ _ _ (hs i _ (by lia) (by lia)) e2
omit inj in
theorem zm4(hp:PmK n p){k l:Nat}(hk:k<n)(hl:l≤k)(i:Nat):gK κ (bubble p k (k-l)) i=if i=l then gK κ p k else if l<i∧i≤k then gK κ p (i-1) else gK κ p i:=by
 unfold gK
 rw[wP,getElem?_bubble (by rw[Xg hp];exact hk) (k-l) (by lia) i,show k-(k-l)=l by lia]
 split
 ·rw[← wP]
 ·split
  ·rw[← wP]
  ·rw[← wP]
theorem za3:∀(f:Nat) (p:Array Nat) (k:Nat),PmK n p→k+f=n→Srt κ p k→Pw (ltK κ) n (kas_bin f p k) fun q=>PmK n q∧Srt κ q n:=by
 intro l_
 induction l_ with
 |zero=>
  rintro p k hp e hs
  obtain rfl:k=n:=by lia
  exact⟨hp,hs⟩
 |succ f ih_=>
  rintro p k hp e hs
  unfold kas_bin
  refine Pw.bind _ (Pw.mono (fun l z_=>?_) _ (XF inj hp (by lia) hs k 0 k (Nat.zero_le _) (Nat.le_refl _) (by lia) (fun i hi=>by lia) (fun i hi hik=>by lia)))
  refine X02 z_ fun q1 q2 q3=>?_
  refine ih_ _ (k+1) ((Array.perm_iff_toList_perm.mp (bubble_perm p k (k-l))).trans hp) (by lia) fun i j hij hj=>?_
  rw[zm4 hp (by lia) q1,zm4 hp (by lia) q1]
  by_cases a1:i=l
  ·rw[if_pos a1,if_neg (by lia),if_pos (by lia)]
   exact q3 _ (by lia) (by lia)
  ·rw[if_neg a1]
   by_cases a2:l<i∧i≤k
   ·rw[if_pos a2,if_neg (by lia),if_pos (by lia)]
    exact hs _ _ (by lia) (by lia)
   ·rw[if_neg a2]
    by_cases b1:j=l
    ·rw[if_pos b1];exact q2 _ (by lia)
    ·rw[if_neg b1]
     by_cases b2:l<j∧j≤k
     ·rw[if_pos b2]
      by_cases c:i=j-1
      ·lia
      ·exact hs _ _ (by lia) (by lia)
     ·rw[if_neg b2];exact hs _ _ hij (by lia)
theorem zc3(hn:2≤n):Pw (ltK κ) n (kas_sort n) fun q=>PmK n q∧Srt κ q n:=by
 unfold kas_sort
 refine Pw.bind _ (Pw.mono (fun r z_=>?_) _ (L9 inj (p:=List.toArray (List.range n)) (by show(List.toArray (List.range n)).toList.Perm _;simp) hn))
 refine X03 z_ fun q1 q2 q3 q4=>?_
 by_cases z:r.1<n
 ·rw[if_pos z,Nat.max_eq_left q2]
  exact za3 inj _ _ _ q1 (by lia) q4
 ·rw[if_neg z]
  obtain e:r.1=n:=by lia
  rw[e] at q4
  exact⟨q1,q4⟩
end
noncomputable def Wc{α:Type}(x:List Int×α):List (List Int×α)→List (List Int×α)
 |[]=>[x]
 |y::r=>if lxI x.1 y.1=true then x::y::r else y::Wc x r
noncomputable def wV{α:Type}:List (List Int×α)→List (List Int×α)
 |[]=>[]
 |x::r=>Wc x (wV r)
theorem YK{α:Type}(x:List Int×α):∀l,(Wc x l).Perm (x::l):=by
 intro l_
 induction l_ with
 |nil=>
  exact List.Perm.refl _
 |cons y r ih_=>
  unfold Wc
  split
  ·exact List.Perm.refl _
  ·exact((ih_).cons y).trans (List.Perm.swap x y r)
theorem vW{α:Type}:∀l:List (List Int×α),(wV l).Perm l:=by
 intro l_
 induction l_ with
 |nil=>
  exact List.Perm.refl _
 |cons x r ih_=>
  exact(YK x _).trans ((ih_).cons x)
theorem Jn{α:Type}(x:List Int×α):∀l:List (List Int×α),l.Pairwise (fun a b=>lxI a.1 b.1=true)→(∀y∈l,y.1≠x.1)→(Wc x l).Pairwise fun a b=>lxI a.1 b.1=true:=by
 intro l_
 induction l_ with
 |nil=>
  rintro _ _
  unfold Wc;simp
 |cons y r ih_=>
  rintro h hd
  unfold Wc
  obtain⟨h1,h2⟩:=List.pairwise_cons.mp h
  split
  ·rename_i z
   refine List.pairwise_cons.mpr ⟨fun a ha=>?_,h⟩
   rcases List.mem_cons.mp ha with rfl|ha
   ·exact z
   ·exact vo _ _ _ z (h1 a ha)
  ·rename_i z
   have z':lxI y.1 x.1=true:=Xm (by simpa using z) (hd y List.mem_cons_self).symm
   refine List.pairwise_cons.mpr ⟨fun a ha=>?_,ih_ h2 fun a ha=>hd a (List.mem_cons_of_mem _ ha)⟩
   rcases List.mem_cons.mp ((YK x r).mem_iff.mp ha) with rfl|ha
   ·exact z'
   ·exact h1 a ha
theorem Yt{α:Type}:∀l:List (List Int×α),(l.map (·.1)).Nodup→(wV l).Pairwise fun a b=>lxI a.1 b.1=true:=by
 intro l_
 induction l_ with
 |nil=>
  rintro _
  unfold wV;exact List.Pairwise.nil
 |cons x r ih_=>
  rintro h
  unfold wV
  rw[List.map_cons,List.nodup_cons] at h
  refine Jn x _ (ih_ h.2) fun y hy e=>h.1 ?_
  rw[← e]
  exact List.mem_map.mpr ⟨y,(vW r).mem_iff.mp hy,rfl⟩
theorem Yx{α:Type}{r:α→α→Prop}(as:∀a b,r a b→r b a→False):∀{l m:List α},l.Perm m→l.Pairwise r→m.Pairwise r→l=m
 |[],m,p,_,_=>(List.Perm.nil_eq p)
 |a::l,[],p,_,_=>by have:=p.length_eq;simp at this
 |a::l,b::m,p,h1,h2=>by
  obtain⟨x1,x2⟩:=List.pairwise_cons.mp h1
  obtain⟨y1,y2⟩:=List.pairwise_cons.mp h2
  by_cases e:a=b
  ·subst e
   rw[Yx as ((List.perm_cons a).mp p) x2 y2]
  ·have ha:a∈b::m:=p.mem_iff.mp List.mem_cons_self
   have hb:b∈a::l:=p.mem_iff.mpr List.mem_cons_self
   rcases List.mem_cons.mp ha with z|z
   ·exact absurd z e
   ·rcases List.mem_cons.mp hb with w|w
    ·exact absurd w.symm e
    ·exact(as a b (x1 b w) (y1 a z)).elim
theorem JU{α:Type}{l m:List (List Int×α)}(p:l.Perm m)(h:l.Pairwise fun a b=>lxI a.1 b.1=true)(nd:(m.map (·.1)).Nodup):l=wV m:=
 Yx (fun a b x y=>by rw[Vl x] at y;nomatch y) (p.trans (vW m).symm) h (Yt m nd)
theorem Tj{α:Type}{ks:List (List Int)}{ds:List α}{q:Array Nat}{d:α}(hl:ks.length=ds.length)(nd:ks.Nodup)(hp:q.toList.Perm (List.range ds.length))(hs:Srt (fun i=>ks.getD i []) q ds.length) :
  q.toList.map (fun i=>ds.getD i d)=(wV (ks.zip ds)).map (·.2):=by
 have hz:(ks.zip ds).map (·.1)=ks:=List.map_fst_zip (by lia)
 have e0:(List.range ds.length).map (fun i=>(ks.getD i [],ds.getD i d))=ks.zip ds:=by
  apply List.ext_getElem
  ·simp[hl]
  ·intro i h1 h2
   have a1:i<ds.length:=by simpa using h1
   have a2:i<ks.length:=by lia
   simp[a1,a2]
 have key:q.toList.map (fun i=>(ks.getD i [],ds.getD i d))=wV (ks.zip ds):=by
  refine JU (by rw[← e0];exact hp.map _) ?_ (by rw[hz];exact nd)
  rw[List.pairwise_map,List.pairwise_iff_getElem]
  intro i j hi hj hij
  have sz:q.size=ds.length:=Xg hp
  have:=hs i j hij (by simpa[sz] using hj)
  unfold gK at this
  rw[wP,wP] at this
  have ea:q[i]?=some q.toList[i]:=by rw[getElem_toList];exact getElem?_eq_getElem _
  have eb:q[j]?=some q.toList[j]:=by rw[getElem_toList];exact getElem?_eq_getElem _
  rw[ea,eb] at this
  exact this
 rw[← key,List.map_map]
 rfl
open PySem.W
noncomputable def KTs(h:Heap):List Value→List (List Int)→Prop
 |[],[]=>True
 |v::vs,k::ks=>(∃a o its n,v=Value.ref a∧h.get? a=some o∧o.cls=.type "tuple" ∧ o.data=.seq its n∧IntsAre its.toList k∧k≠[])∧KTs h vs ks
 |_,_=>False
theorem KTs.len{h:Heap}:∀{vs:List Value} {ks:List (List Int)},KTs h vs ks→vs.length=ks.length
 |[],[],_=>rfl
 |_::vs,_::ks,r=>by rw[List.length_cons,List.length_cons,KTs.len r.2]
 |[],_::_,r=>r.elim
 |_::_,[],r=>r.elim
theorem KTs.get{h:Heap}:∀{vs:List Value} {ks:List (List Int)} {i:Nat},KTs h vs ks→i<ks.length→∃a o its n,vs.getD i Value.none=Value.ref a∧h.get? a=some o∧o.cls=.type "tuple" ∧ o.data=.seq its n∧IntsAre its.toList (ks.getD i [])∧ks.getD i []≠[]
 |[],[],_,_,hi=>by simp at hi
 |_::vs,_::ks,0,r,_=>by simpa using r.1
 |_::vs,_::ks,i+1,r,hi=>by
  obtain⟨a,o,its,n,q⟩:=KTs.get (i:=i) r.2 (by simpa using hi)
  exact⟨a,o,its,n,by simpa using q⟩
 |[],_::_,_,r,_=>r.elim
 |_::_,[],_,r,_=>r.elim
theorem KTs.firsts{h:Heap}:∀{vs:List Value} {ks:List (List Int)},KTs h vs ks→∃fs:List Value,KatTups h vs fs∧fs.length=vs.length∧∀v∈fs,∃n t,v=Value.int n t
 |[],[],_=>⟨[],KatTups.nil,rfl,fun _ z=>nomatch z⟩
 |v::vs,k::ks,⟨⟨a,o,its,n,e1,e2,e3,e4,e5,e6⟩,r⟩=>by
  refine X12 (KTs.firsts r) fun fs q1 q2 q3=>?_
  subst e1
  have:∃i t,its[0]?=some (Value.int i t):=by
   obtain⟨l⟩:=its
   cases e5 with
   |nil=>exact absurd rfl e6
   |cons i t _=>exact⟨i,t,rfl⟩
  obtain⟨i,t,h0⟩:=this
  refine Y12 _ (KatTups.cons e2 e3 e4 h0 q1) (by simp[q2]) (fun v hv=>?_)
  rcases List.mem_cons.mp hv with rfl|hv
  ·exact⟨_,_,rfl⟩
  ·exact q3 v hv
 |[],_::_,r=>r.elim
 |_::_,[],r=>r.elim
section
variable{prog:Program}{w:World}{A:Around}{E:Value→Shared→Prop}{s:Shared}
theorem MI{vs:List Value}{ks:List (List Int)}{Q:SortKind→Shared→Prop}(h:KTs s.heap vs ks)(hn:0<vs.length)(q:Q (tuples' true) s):wpAny (model prog w) A (keyKind' vs.toArray) Q E s:=by
 refine X12 h.firsts fun fs q1 q2 q3=>?_
 refine kat_kind (T:=.type "int") q1 (by lia) (fun v hv=>?_) (by decide) q
 obtain⟨i,t,rfl⟩:=q3 v hv
 exact Looks.now
theorem Jd{Q:Bool→Shared→Prop}{fin:Bool}:∀{xs ys:List Int} {us ws:List Value} (i:Nat),IntsAre us xs→IntsAre ws ys→fin=decide (xs.length<ys.length)→Q (lxI xs ys) s→KatLex prog w A true fin Q (us.zip ws) i s
 |_,_,_,_,i,.nil,.nil,e,q=>by
  have e:fin=false:=by simpa using e
  subst e
  exact kat_nil q
 |_,_,_,_,i,.nil,.cons _ _ _,e,q=>by
  have e:fin=true:=by simpa using e
  subst e
  exact kat_nil q
 |_,_,_,_,i,.cons _ _ _,.nil,e,q=>by
  have e:fin=false:=by simpa using e
  subst e
  exact kat_nil q
 |_,_,_,_,i,.cons a t r1,.cons b u r2,e,q=>by
  rw[lxI] at q
  refine kat_cons (wpAny_eqBool_int ?_)
  by_cases z:a=b
  ·subst z
   rw[if_pos rfl] at q
   rw[beq_self_eq_true]
   exact kat_yes (Jd (i+1) r1 r2 (by rw[e];simp) q)
  ·rw[if_neg z] at q
   rw[show(a==b)=false by simpa using z]
   refine kat_no ?_
   cases hi:(true&&i==0) with
   |true=>exact oneLt_int q
   |false=>exact kat_one _ _ (PyProof.Rows.lt_int (show PySem.W.BoolBack Q (.bool (decide (a<b))) s from q))
theorem za9{vs:List Value}{ks:List (List Int)}{n:Nat}(h:KTs s.heap vs ks)(hn:ks.length=n)(i j:Nat)(C:Bool→Shared→Prop)(hi:i<n)(hj:j<n)(q:C (ltK (fun i=>ks.getD i []) i j) s):kas_ask prog w A (tuples' true) vs i j C s:=by
 obtain⟨a,o,its,m,e1,e2,e3,e4,e5,e6⟩:=h.get (i:=i) (by lia)
 obtain⟨a',o',its',m',f1,f2,f3,f4,f5,f6⟩:=h.get (i:=j) (by lia)
 unfold kas_ask
 rw[e1,f1]
 refine kat_lt e2 e4 f2 f4 (Jd 0 e5 f5 ?_ q)
 have l1:=e5.length
 have l2:=f5.length
 rw[length_toList] at l1 l2
 rw[l1,l2]
theorem Ts{vs us:List Value}{ks:List (List Int)}{Q:SortSt→Shared→Prop}(h:KTs s.heap vs ks)(hl:vs.length=us.length)(h2:2≤us.length)(h64:us.length<64)(nd:ks.Nodup)
  (q:∀(p:Array Nat) (st:SortSt),PmK us.length p→Srt (fun i=>ks.getD i []) p us.length→(arrOf st).map (·.2)=List.toArray (p.toList.map fun i=>us.getD i Value.none)→failedOf st=none→Q st s) :
  wpAny (model prog w) A ((sortRuns').run (SortSt.mk' (tuples' true) (vs.toArray.zip us.toArray) #[] 7 none)) (fun r s'=>Q r.2 s') E s:=by
 have hk:ks.length=us.length:=by rw[← h.len,hl]
 refine kat_run (G:=fun p s'=>s'=s∧PmK us.length p∧Srt (fun i=>ks.getD i []) p us.length) hl h2 h64 (fun p st' s' h1 h3 h4 h5=>?_) ?_
 ·obtain⟨rfl,h5,h6⟩:=h5
  exact q p st' h5 h6 (kat_snds hl h3) h4
 ·have inj:∀i j,i<us.length→j<us.length→ks.getD i []=ks.getD j []→i=j:=fun i j hi hj e=>by
   have key:∀a b:Nat,a<b→b<us.length→ks.getD a []≠ks.getD b []:=fun a b hab hb=>by
    have:=List.pairwise_iff_getElem.mp nd a b (by lia) (by lia) hab
    have ea:ks.getD a []=ks[a]'(by lia):=by simp[show a<ks.length by lia]
    have eb:ks.getD b []=ks[b]'(by lia):=by simp[show b<ks.length by lia]
    rw[ea,eb];exact this
   rcases Nat.lt_trichotomy i j with z|z|z
   ·exact absurd e (key i j z hj)
   ·exact z
   ·exact absurd e.symm (key j i z hi)
  exact Pw.wp (fun i j C hi hj=>za9 h hk i j C hi hj) (fun p hp=>⟨rfl,hp⟩) _ (zc3 (κ:=fun i=>ks.getD i []) inj h2)
end
noncomputable def Wa:List D→Option (List Int)
 |[]=>some []
 |.int i::r=>(Wa r).map (i :: ·)
 |_=>none
noncomputable def zi1:D→Option (List Int)
 |.tup ds=>Wa ds
 |_=>none
theorem Jl:∀{ds:List D} {ns:List Int},Wa ds=some ns→ds=ns.map D.int
 |[],ns,h=>by cases h;rfl
 |.int i::r,ns,h=>by
  simp only[Wa] at h
  cases q:Wa r with
  |none=>rw[q] at h;cases h
  |some m=>rw[q] at h;cases h;rw[Jl q];rfl
 |.non::_,_,h=>by cases h
 |.bl _::_,_,h=>by cases h
 |.str _::_,_,h=>by cases h
 |.lst _::_,_,h=>by cases h
 |.tup _::_,_,h=>by cases h
 |.scr _::_,_,h=>by cases h
 |.raw _::_,_,h=>by cases h
 |.exc _::_,_,h=>by cases h
 |.dct _ _::_,_,h=>by cases h
theorem zi0{d:D}{ns:List Int}(h:zi1 d=some ns):d=.tup (ns.map D.int):=by
 cases d <;> first|cases h|skip
 rename_i ds
 rw[Jl (ds:=ds) h]
noncomputable def YX:List D→Option (List (List Int))
 |[]=>some []
 |d::r=>match zi1 d,YX r with
  |some k,some ks=>some (k::ks)
  |_,_=>none
theorem Jf:∀{ds:List D} {ks:List (List Int)},YX ds=some ks→ds=ks.map fun k=>D.tup (k.map D.int)
 |[],ks,h=>by cases h;rfl
 |d::r,ks,h=>by
  simp only[YX] at h
  cases q:zi1 d with
  |none=>rw[q] at h;nomatch h
  |some k=>
   cases q2:YX r with
   |none=>rw[q,q2] at h;nomatch h
   |some ks'=>
    rw[q,q2] at h;replace h:=sI_ h;subst h
    rw[zi0 q,Jf q2];rfl
section
variable{X:Cx}{pins:List (Addr×Obj)}{σ:St}{F H:Hp}{s:Shared}
theorem X9:∀{ns:List Int} {vs:List V} {us:List Value},Reps X.K F (ns.map D.int) vs→Vals vs us→IntsAre us ns
 |[],_,_,r,v=>by
  simp only[List.map_nil,Reps] at r;subst r
  cases v;exact .nil
 |n::ns,_,_,r,v=>by
  simp only[List.map_cons,Reps] at r
  obtain⟨x,xs,rfl,rx,rr⟩:=r
  simp only[Rep] at rx
  subst rx
  cases v with
  |cons e t=>
   rename_i u us
   obtain⟨t',e⟩:∃t',u=Value.int n t':=e
   subst e
   exact .cons _ _ (X9 rr t)
theorem LG(I:Inv X pins σ H s)(fh:Same F H):∀{ks:List (List Int)} {vs:List V} {us:List Value},Reps X.K F (ks.map fun k=>D.tup (k.map D.int)) vs→Vals vs us→(∀k∈ks,k≠[])→KTs s.heap us ks
 |[],_,_,r,v,_=>by
  simp only[List.map_nil,Reps] at r;subst r
  cases v;exact trivial
 |k::ks,_,_,r,v,ne=>by
  simp only[List.map_cons,Reps] at r
  obtain⟨x,xs,rfl,rx,rr⟩:=r
  simp only[Rep] at rx
  obtain⟨a,ws,rfl,q,t⟩:=rx
  obtain⟨its,rv,⟨o,eo,hc,n,hd⟩,hz⟩:=I.tuple (Same.seqT fh q)
  cases v with
  |cons e tl=>
   rename_i u us
   have e:u=Value.ref a:=e
   subst e
   exact⟨⟨a,o,its.toArray,n,rfl,eo,hc,hd,by simpa using X9 t rv,ne k List.mem_cons_self⟩,LG I fh rr tl fun k hk=>ne k (List.mem_cons_of_mem _ hk)⟩
theorem Reps.pick{K:Frag}{ds:List D}{vs:List V}(r:Reps K F ds vs):∀(q:List Nat),(∀i∈q,i<ds.length)→Reps K F (q.map fun i=>ds.getD i .non) (q.map fun i=>vs.getD i .non):=by
 intro l_
 induction l_ with
 |nil=>
  rintro _
  exact Reps.nil
 |cons i q ih_=>
  rintro h
  have hi:=h i List.mem_cons_self
  refine X11 (r.get (i:=i) (List.getElem?_eq_getElem hi)) fun v e1 e2=>?_
  have z1:ds.getD i .non=ds[i]:=by simp[hi]
  have z2:vs.getD i .non=v:=by simp[e1]
  rw[List.map_cons,List.map_cons,z1,z2]
  exact Reps.cons e2 (ih_ fun j hj=>h j (List.mem_cons_of_mem _ hj))
theorem WU{vs:List V}{us:List Value}(r:Vals vs us):∀(q:List Nat),(∀i∈q,i<vs.length)→Vals (q.map fun i=>vs.getD i .non) (q.map fun i=>us.getD i .none):=by
 intro l_
 induction l_ with
 |nil=>
  rintro _
  exact .nil
 |cons i q ih_=>
  rintro h
  have hi:=h i List.mem_cons_self
  refine X11 (r.get (i:=i) (List.getElem?_eq_getElem hi)) fun u e1 e2=>?_
  have z1:vs.getD i .non=vs[i]:=by simp[hi]
  have z2:us.getD i .none=u:=by simp[e1]
  rw[List.map_cons,List.map_cons,z1,z2]
  exact .cons e2 (ih_ fun j hj=>h j (List.mem_cons_of_mem _ hj))
end
open PySem.W
section
variable{X:Cx}{pins:List (Addr×Obj)}{σ:St}{F H:Hp}{τ:DS}{s:Shared}{Q:VK}{E:Value→Shared→Prop}
theorem Inv.relist(I:Inv X pins σ H s){a:Addr}{xs ys:List V}{us ws:List Value}{n:Nat}{g:Array Value→Array Value}(e:H a=some (.lst xs))(o:s.heap.get? a=some (seqObj "list" us.toArray n))(hg:g us.toArray=ws.toArray)(r:Vals ys ws)(hz:ys.length≤sizeLine) :
  Inv X pins σ (upd H a (.lst ys)) { s with heap:=s.heap.update a (Obj.mapSeq g) }:=by
 have h1:=get?_update_seq o g
 rw[hg] at h1
 exact I.write (t':=s.toks) (by rw[e];exact trivial) (.inl rfl) (fun b u hb q=>by rw[Heap.get?_update_ne _ _ _ _ hb];exact q) ⟨_,h1⟩ ⟨hz,ws,_,r,h1⟩
theorem Inv.settle(I:Inv X (pins++[p]) σ H s){D:Addr}{n:Nat}{ys:List V}{ws:List Value}{g:Array Value→Array Value}(hp:p=(D,seqObj "list" #[] n))(hg:g #[]=ws.toArray)(r:Vals ys ws)(hz:ys.length≤sizeLine)
  (h0:X.s₀.heap.objs.size≤D) (hc:∀x c,X.env.cells.lookup x=some c→c≠D) (hn:∀q∈X.pn++pins,q.1≠D):Inv X pins σ (upd H D (.lst ys)) { s with heap:=s.heap.update D (Obj.mapSeq g) }:=by
 subst hp
 obtain⟨e,nD,neL,nf,_⟩:=I.pin (D,seqObj "list" #[] n) (by simp)
 have J:Inv X pins σ H s:=I.pins_of fun q hq=>I.pin q (List.mem_append_right _ (List.mem_append_left _ hq))
 have h1:=get?_update_seq e g
 rw[hg] at h1
 have kp:∀b u,b≠D→s.heap.get? b=some u→(s.heap.update D (Obj.mapSeq g)).get? b=some u:=fun b u hb q=>by rw[Heap.get?_update_ne _ _ _ _ hb];exact q
 refine J.step (g':=s.gens) (d':=s.drawn) (t':=s.toks) (ch:=[D]) (fun b hb=>?_) (fun b o _ _ hb q _=>kp b o (by simpa using hb) q) (fun b o _ _ hb q _=>⟨o.slots,kp b o (by simpa using hb) q⟩) (fun b o hb _ q=>by rw[zj (by simpa using hb)];exact q)
  (fun b o hb q=>⟨o,kp b o (by simpa using hb) q⟩) (fun b xs q=>by rw[zj (zC q nD)];exact q) (fun b o u q=>by rw[zj (zC q nD)];exact q) (fun b ps q=>⟨#[],by rw[zj (zC q nD),q];simp⟩) (fun m hm=>?_) ?_ J.bare
 ·have:b=D:=by simpa using hb
  subst this
  exact⟨.inr h0,neL,hc,hn⟩
 ·obtain⟨o,es,ep,ho,r'⟩:=hm
  exact⟨o,es,ep,kp _ o (Ne.symm neL) ho,r'⟩
 ·intro b u q
  by_cases hb:b=D
  ·subst hb
   rw[zp] at q;replace q:=sI_ q;subst q
   exact⟨hz,ws,_,r,h1⟩
  ·rw[zj hb] at q
   refine(J.hok b u q).stay (fun c v hc' q'=>kp c v ?_ q') (fun c q'=>by rw[zj (zC q' nD)];exact q') fun c xs q'=>by rw[zj (zC q' nD)];exact q'
   rcases hc' with z|z
   ·rw[z];exact hb
   ·exact zC z nD
theorem GX:Vals ([]:List V) []:=.nil
theorem QJ{D kS:Addr}{e1:Nat}{st:SortSt}{kvs ovs:List V}{out:List Value}{P:PySem.Fin→Shared→Prop}{A:Around}(I:Inv X (pins++[(D,seqObj "list" #[] e1)]) σ H s)(hk:H kS=some (.lst kvs))(hout:(arrOf st).map (·.2)=List.toArray out)(hf:failedOf st=none)(hz:out.length<64)
  (r:Vals ovs out) (hkz:kvs.length≤sizeLine) (h0:X.s₀.heap.objs.size≤D) (hc:∀x c,X.env.cells.lookup x=some c→c≠D) (hn:∀q∈X.pn++pins,q.1≠D)
  (h:∀s',Inv X pins σ (upd (upd H kS (.lst [])) D (.lst ovs)) s'→P (.done (.ret .none)) s'):wpAny (model X.prog X.w) A (ksk_tail D false e1 (.ref kS) st) P E s:=by
 refine X01 (I.hok kS _ hk) fun z1 r51_=>?_;refine X21 r51_ fun its n rk ek=>?_
 have lk:its.length≤sizeLine:=by rw[← rk.length];exact hkz
 have I1:=Inv.relist (g:=fun _=>#[]) I hk ek (ws:=[]) rfl GX (Nat.zero_le _)
 refine X02 (I1.pin (D,seqObj "list" #[] e1) (by simp)) fun eD nD _=>?_
 unfold ksk_tail
 try dsimp only
 refine wpAny_bind (listUpdate_at ek rfl ?_ (by rw[List.size_toArray];exact lk) (Nat.zero_le _))
 refine wpAny_bind (wpAny_letGo ?_)
 refine wpAny_bind (seqEpoch_at eD rfl ?_)
 refine wpAny_bind (listUpdate_at eD rfl ?_ (Nat.zero_le _) ?_)
 ·rw[hf]
  simp only[bne_self_eq_false,Bool.false_eq_true,if_false]
  exact wpAny_pure (h _ (Inv.settle I1 rfl (ws:=out) hout r (by rw[r.length];exact Nat.le_of_lt (wW (by lia))) h0 hc hn))
 ·simp only[Bool.false_eq_true,if_false]
  rw[hout,List.size_toArray]
  exact Nat.le_trans (Nat.le_of_lt (wW (by lia))) (Nat.le_succ _)
theorem JT:∀{kz:List (List Int)} {ds:List D},kz.length=ds.length→ds.length<2→(wV (kz.zip ds)).map (·.2)=ds
 |[],[],_,_=>rfl
 |[a],[b],_,_=>rfl
 |[],_::_,h,_=>by simp at h
 |[_],[],h,_=>by simp at h
 |[_],_::_::_,h,_=>by simp at h
 |_::_::_,ds,h,h2=>by simp at h;lia
theorem zu5{Da kS:Addr}{e1:Nat}{kvs vs:List V}{us:List Value}{ds:List D}{kz:List (List Int)}{P:PySem.Fin→Shared→Prop}{A:Around}(I:Inv X (pins++[(Da,seqObj "list" #[] e1)]) σ H s)(hk:H kS=some (.lst kvs)){ks:List Value}{n:Nat}(ek:s.heap.get? kS=some (seqObj "list" ks.toArray n))(rk:Vals kvs ks)
  (fh:Same F H) (kr:Reps X.K F (kz.map fun k=>FD.D.tup (k.map FD.D.int)) kvs) (ne:∀k∈kz,k≠[]) (nd:kz.Nodup) (hl:kz.length=ds.length) (rs:Reps X.K F ds vs) (rv:Vals vs us) (hz:us.length<64)
  (h0:X.s₀.heap.objs.size≤Da) (hc:∀x c,X.env.cells.lookup x=some c→c≠Da) (hn:∀q∈X.pn++pins,q.1≠Da)
  (h:∀s' ovs,Inv X pins σ (upd (upd H kS (.lst [])) Da (.lst ovs)) s'→Reps X.K F ((wV (kz.zip ds)).map (·.2)) ovs→P (.done (.ret .none)) s'):wpAny (model X.prog X.w) A (ksk_end Da false us.toArray e1 (.ref kS) ks.toArray) P E s:=by
 have l1:ds.length=us.length:=by rw[rs.length,rv.length]
 have l2:ks.length=us.length:=by rw[← rk.length,← kr.length,List.length_map,hl,l1]
 have hkz:kvs.length≤sizeLine:=by rw[rk.length,l2];exact Nat.le_of_lt (wW (by lia))
 unfold ksk_end
 try dsimp only
 simp only[Bool.false_eq_true,if_false]
 by_cases h2:us.length<2
 ·have h2':us.toArray.size<2:=by rw[List.size_toArray];exact h2
  rw[if_pos h2',if_pos h2']
  refine wpAny_bind (wpAny_pure ?_)
  rw[StateT.run_pure]
  refine wpAny_bind (wpAny_pure ?_)
  try dsimp only
  refine QJ (out:=us) (ovs:=vs) I hk ?_ rfl hz rv hkz h0 hc hn fun s' J=>h s' vs J ?_
  ·show((ks.toArray.zip us.toArray).map (·.2))=us.toArray
   apply Array.toList_inj.mp
   rw[Array.toList_map,ksk_zip]
   exact List.map_snd_zip (by simp[l2])
  ·rw[JT hl (by lia)];exact rs
 ·have h2':¬ us.toArray.size<2:=by rw[List.size_toArray];exact h2
  rw[if_neg h2',if_neg h2']
  have kt:=LG I fh kr rk ne
  refine wpAny_bind (MI kt (by lia) ?_)
  refine wpAny_bind (Ts (Q:=fun st s'=>wpAny (model X.prog X.w) A (ksk_tail Da false e1 (.ref kS) st) P E s') kt l2 (by lia) hz nd fun p st h3 h4 h5 h6=>?_)
  have hp:∀i∈p.toList,i<us.length:=fun i hi=>by simpa using h3.mem_iff.mp hi
  refine QJ (ovs:=p.toList.map fun i=>vs.getD i .non) I hk h5 h6 ?_ (WU rv _ fun i hi=>by rw[rv.length];exact hp i hi) hkz h0 hc hn fun s' J=>h s' _ J ?_
  ·rw[List.length_map,h3.length_eq,List.length_range];exact hz
  ·rw[← Tj (q:=p) (d:=.non) hl nd (by rw[l1];exact h3) (by rw[l1];exact h4)]
   exact Reps.pick rs _ fun i hi=>by rw[l1];exact hp i hi
end
open PySem.W
section
variable{X:Cx}{pins:List (Addr×Obj)}{σ:St}{F H:Hp}{τ:DS}{s:Shared}{Q:VK}{E:Value→Shared→Prop}
theorem JR{l f:Addr}{ds:List D}{vs:List V}{kz:List (List Int)}(I:Inv X pins σ H s)(fh:Same F H)(hl:F l=some (.lst vs))(rs:Reps X.K F ds vs)(h64:ds.length<64)(hk:kz.length=ds.length)(nd:kz.Nodup)(ne:∀k∈kz,k≠[])
  (key:∀(i:Nat) (d:D) (k:List Int),ds[i]?=some d→kz[i]?=some k→∀(pins':List (Addr×Obj)) (s':Shared) (F' H':Hp) (v:V) (u:Value) (Q':VK),Inv X pins' σ H' s'→(∀p∈pins,p∈pins')→Ext F H F' H'→Rep X.K F' d v→RelV v u →
   (∀kv F'' H'',Ext F' H' F'' H''→Rep X.K F'' (.tup (k.map D.int)) kv→Q' kv H'')→wpAny (model X.prog X.w) X.A.in1.in1 (call (.ref f) [u]) (EP X pins' σ Q') (fun _ _=>False) s')
  (hQ:∀Da F' H',Ext F H F' H'→Rep X.K F' (.lst ((wV (kz.zip ds)).map (·.2))) (.ref Da)→Q (.ref Da) H') :
  wpAny (model X.prog X.w) X.A (call (.builtin "sorted") [.ref l] [(Str.ofString "key", .ref f)]) (EP X pins σ Q) E s:=by
 obtain⟨us,rv,⟨o,nn,eo,hc,hd0,hd⟩,hz⟩:=I.list (SqL.of (K:=X.K) (fh _ _ hl))
 have hil:s.heap.IsList l us.toArray:=⟨o,eo,hc,nn,hd⟩
 have l1:ds.length=us.length:=by rw[rs.length,rv.length]
 have sz:us.length≤sizeLine:=Nat.le_of_lt (wW (by lia))
 refine call_function_entry_kw kind_sorted plain_sorted entry_sorted (ksk_s1 _ _) ?_
 unfold Builtin.«sorted»
 refine wpAny_bind (m:=checkCount "sorted" 1 1 _) (wpAny_pure ?_)
 refine wpAny_bind (collect_list hil ?_ sz)
 refine wpAny_bind (wpAny_newList ?_ sz)
 have keep1:∀b u,s.heap.get? b=some u→((s.heap.push (seqObj "list" #[] 0)).update s.heap.objs.size (Obj.mapSeq (· ++ us.toArray))).get? b=some u:=fun b u q=>by
  have hb:b<s.heap.objs.size:=Heap.lt_size q
  rw[Heap.get?_update_ne _ _ _ _ (Nat.ne_of_lt hb),Heap.get?_push_ne _ _ _ (Nat.ne_of_lt hb)]
  exact q
 have size1:s.heap.objs.size≤((s.heap.push (seqObj "list" #[] 0)).update s.heap.objs.size (Obj.mapSeq (· ++ us.toArray))).objs.size:=by rw[Heap.size_update,size_push'];lia
 generalize hh1:(s.heap.push (seqObj "list" #[] 0)).update s.heap.objs.size (Obj.mapSeq (· ++ us.toArray))=h1 at keep1 size1
 have hD:(h1.push (seqObj "list" us.toArray 0)).get? h1.objs.size=some (seqObj "list" us.toArray 0):=Heap.get?_push_size _ rfl
 have keep2:∀b u,s.heap.get? b=some u→(h1.push (seqObj "list" us.toArray 0)).get? b=some u:=fun b u q=>get?_push_of_some _ (keep1 b u q)
 generalize hDa:h1.objs.size=Da at hD size1
 have neD:∀b u,s.heap.get? b=some u→b≠Da:=fun b u q=>Nat.ne_of_lt (Nat.lt_of_lt_of_le (Heap.lt_size q) size1)
 generalize hh2:h1.push (seqObj "list" us.toArray 0)=h2 at hD keep2
 have ltD:Da<h2.objs.size:=Heap.lt_size hD
 refine wpAny_bind (wpAny_holding (wpAny_call_entry_kw (rest:=[]) slot_list_sort ⟨_,hD,rfl⟩ entry_list_sort ?_ (ksk_l1 _ _)))
 show wpAny (model X.prog X.w) X.A.in1.in1 (Builtin.«list.sort» ⟨[.ref Da],[(Str.ofString "key", .ref f)]⟩) _ _ _
 rw[ksk_t1 f Da]
 unfold ksk_tree
 refine wpAny_bind (listItems_at hD rfl ?_)
 refine wpAny_bind (listUpdate_at hD rfl ?_ (by rw[List.size_toArray];exact sz) (Nat.zero_le _))
 have keep3:∀b u,s.heap.get? b=some u→(h2.update Da (Obj.mapSeq fun _=>(#[]:Array Value))).get? b=some u:=fun b u q=>by
  rw[Heap.get?_update_ne _ _ _ _ (neD b u q)];exact keep2 b u q
 obtain⟨e1,hD3⟩:∃e1,(h2.update Da (Obj.mapSeq fun _=>(#[]:Array Value))).get? Da=some (seqObj "list" #[] e1):=⟨_,get?_update_seq hD fun _=>#[]⟩
 generalize h2.update Da (Obj.mapSeq fun _=>(#[]:Array Value))=h3 at keep3 hD3
 refine wpAny_bind (seqEpoch_at hD3 rfl ?_)
 refine wpAny_bind (wpAny_newTuple ?_ (by show us.length≤sizeLine;exact sz))
 refine wpAny_bind (wpAny_newList ?_ (Nat.zero_le _))
 refine wpAny_holding ?_
 have hDa0:s.heap.objs.size≤Da:=size1
 have nH:H Da=none:=I.hok.fresh hDa0
 have neL:Da≠X.env.locals:=(Nat.ne_of_lt (Nat.lt_of_lt_of_le I.lt hDa0)).symm
 have pinD:∀q∈X.pn++pins,q.1≠Da:=fun q hq=>neD _ _ (I.pin q hq).1
 have cellD:∀x c,X.env.cells.lookup x=some c→c≠Da:=fun x c e=>by
  refine X21 (I.cell x c e) fun v oc hoc _=>?_
  exact neD _ _ hoc
 have I1:Inv X pins σ H { s with heap:=h3.push (seqObj "tuple" us.toArray 0) }:=I.kept (t':=s.toks) fun b u q=>get?_push_of_some _ (keep3 b u q)
 have I2:Inv X (pins++[(Da,seqObj "list" #[] e1)]) σ H { s with heap:=h3.push (seqObj "tuple" us.toArray 0) }:=I1.pins_of fun q hq=>by
  rcases List.mem_append.mp hq with hq|hq
  ·exact I1.pin q (List.mem_append_right _ hq)
  ·have:q=(Da,seqObj "list" #[] e1):=by simpa using hq
   subst this
   exact⟨get?_push_of_some _ hD3,nH,neL,I.nofs hDa0,fun v z=>nomatch z⟩
 have szk:s.heap.objs.size≤(h3.push (seqObj "tuple" us.toArray 0)).objs.size:=Nat.le_of_lt (Nat.lt_of_le_of_lt hDa0 (Heap.lt_size (get?_push_of_some _ hD3)))
 have hkS:H (h3.push (seqObj "tuple" us.toArray 0)).objs.size=none:=I.hok.fresh szk
 have I3:=I2.laid (t':=s.toks) (a:=(h3.push (seqObj "tuple" us.toArray 0)).objs.size) (o:=.lst []) (h':=(h3.push (seqObj "tuple" us.toArray 0)).push (seqObj "list" #[] 0)) (fun b u q=>get?_push_of_some _ q) (Nat.le_refl _) ⟨Nat.zero_le _,[],0,.nil,Heap.get?_push_size _ rfl⟩
 generalize hkk:(h3.push (seqObj "tuple" us.toArray 0)).objs.size=kS at hkS I3
 have h0D:X.s₀.heap.objs.size≤Da:=Nat.le_trans I.sz hDa0
 unfold ksk_rest
 refine wpAny_bind (wpAny_rule ?_)
 first
  | rw[List.forIn_toArray]
  | (rw[← Array.forIn_toList];simp only[List.toList_toArray])
 refine wpAny_bind (ksk_fold (fun i s'=>∃F2 Hm kvs,Ext F H F2 Hm∧Hm kS=none∧Inv X (pins++[(Da,seqObj "list" #[] e1)]) σ (upd Hm kS (.lst kvs)) s'∧Reps X.K F2 ((kz.take i).map fun k=>D.tup (k.map D.int)) kvs) us 0 _
  ⟨F,H,[],Ext.refl fh,hkS,I3,by simpa using Reps.nil⟩ ?step ?done)
 case step=>
  rintro j x s' hx ⟨F2,Hm,kvs,x2,hm,I4,rk⟩
  simp only[Nat.zero_add] at rk ⊢
  have hj:j<us.length:=(List.getElem?_eq_some_iff.mp hx).1
  obtain⟨d,hd⟩:∃d,ds[j]?=some d:=⟨_,List.getElem?_eq_getElem (by lia)⟩
  obtain⟨k,hkj⟩:∃k,kz[j]?=some k:=⟨_,List.getElem?_eq_getElem (by lia)⟩
  refine X11 (rs.get hd) fun v hv rd=>?_
  refine X11 (rv.get hv) fun u hu ru=>?_
  rw[hx] at hu;replace hu:=sI_ hu;subst hu
  have xo:Ext F2 Hm F2 (upd Hm kS (.lst kvs)):=Ext.open x2.fh hm
  refine wpAny_bind (wpAny_attempt (wpAny_mono (key j d k hd hkj _ s' F2 _ v x (fun kv H''=>∃F'',Ext F2 (upd Hm kS (.lst kvs)) F'' H''∧Rep X.K F'' (.tup (k.map D.int)) kv) I4 (fun p hp=>List.mem_append_left _ hp) (x2.trans xo) (rd.mono x2.ff) ru (fun kv F'' H'' y r=>⟨F'',y,r⟩)) (fun kval s'' hk''=>?_) fun _ _ z=>z.elim))
  refine X22 hk'' fun kv H'' I5 rkv r52_=>?_;refine X11 r52_ fun F'' x5 rp=>?_
  have hkS5:H'' kS=some (.lst kvs):=x5.hh _ _ zp
  refine X01 (I5.hok kS _ hkS5) fun z1 r53_=>?_;refine X21 r53_ fun its n rki ek=>?_
  have lk:kvs.length=j:=by
   rw[← rk.length,List.length_map,List.length_take];lia
  have li:its.length=j:=by rw[← rki.length];exact lk
  have I6:=Inv.relist (g:=(·.push kval)) I5 hkS5 ek (ws:=its++[kval]) (by simp) (rki.append (.cons rkv .nil)) (by rw[List.length_append,lk];exact Nat.le_of_lt (wW (by simp;lia)))
  obtain⟨y1,y2⟩:=uQ x2 hm x5
  try dsimp only
  refine wpAny_bind (listUpdate_at ek rfl ?_ (by rw[List.size_toArray,li];exact Nat.le_of_lt (wW (by lia))) ?_)
  ·refine wpAny_pure ⟨rfl,F'',xC H'' kS,kvs++[kv],y1,wz _ _,by rw[uD];exact I6,?_⟩
   have tk:kz.take (j+1)=kz.take j++[k]:=by
    rw[List.take_add_one,hkj];rfl
   rw[tk,List.map_append]
   exact(rk.mono x5.ff).append (Reps.cons rp Reps.nil)
  ·rw[Array.size_push,List.size_toArray,li];exact Nat.le_trans (Nat.le_of_lt (wW (by lia))) (Nat.le_succ _)
 case done=>
  rintro s' ⟨F2,Hm,kvs,x2,hm,I4,rk⟩
  simp only[Nat.zero_add] at rk
  rw[List.take_of_length_le (by lia)] at rk
  refine X01 (I4.hok kS _ zp) fun z1 r54_=>?_;refine X21 r54_ fun ks n rki ek=>?_
  refine wpAny_bind (listItems_at ek rfl ?_)
  have xo:Ext F2 Hm F2 (upd Hm kS (.lst kvs)):=Ext.open x2.fh hm
  refine zu5 I4 zp ek rki xo.fh rk ne nd hk (rs.mono x2.ff) rv (by lia) h0D cellD pinD fun s5 ovs J ro=>?_
  refine Y11 _ rfl (wpAny_pure ⟨_,rfl,.ref Da,_,J,rfl,hQ Da (upd F2 Da (.lst ovs)) _ ?_ ?_⟩)
  ·have hmD:Hm Da=none:=by
    refine X02 (I4.pin (Da,seqObj "list" #[] e1) (by simp)) fun _ nD _=>?_
    by_cases z:Da=kS
    ·rw[z];exact hm
    ·rw[zj z] at nD;exact nD
   have eq1:upd (upd (upd Hm kS (.lst kvs)) kS (.lst [])) Da (.lst ovs)=upd (upd Hm kS (.lst [])) Da (.lst ovs):=by
    congr 1;funext b;unfold upd;split <;> rfl
   rw[eq1]
   have kD:(upd Hm kS (.lst [])) Da=none:=by
    refine X02 (I4.pin (Da,seqObj "list" #[] e1) (by simp)) fun _ nD _=>?_
    by_cases z:Da=kS
    ·rw[z,zp] at nD;nomatch nD
    ·rw[zj z];exact hmD
   exact(x2.trans (Ext.open (o:=.lst []) x2.fh hm)).trans (Ext.new ((x2.trans (Ext.open (o:=.lst []) x2.fh hm)).fh) kD)
  ·have hF:F2 Da=none:=by
    refine X02 (I4.pin (Da,seqObj "list" #[] e1) (by simp)) fun _ nD _=>?_
    exact zF xo.fh nD
   simp only[Rep]
   exact Y22 Da ovs rfl zp (ro.mono (yq hF))
end
open PySem.W
noncomputable def _root_.L2.Cx.lam(X:Cx)(scope:Scope)(N:List Str)(s:Shared)(H:Hp)(qual:Str)(f:Addr)(cd:Value):Cx:=
 { prog:=X.prog,w:=X.w,K:=X.K,mg:=X.mg,base:=X.base,A:=X.A.in1.in1.deeper (envX qual scope s.heap.objs.size f cd (wI scope X.env)),N:=N,s₀:=s,H₀:=H,env:=envX qual scope s.heap.objs.size f cd (wI scope X.env),outer:=X.stack,
   stack:=envX qual scope s.heap.objs.size f cd (wI scope X.env)::X.stack,ex:=[],fn:=fun _=>false,calm:=true,pn:=[],xe:=fun _ _=>False }
section
variable{X:Cx}{scope:Scope}{N':List Str}{pins:List (Addr×Obj)}{σ σ':St}{F H:Hp}{τ:DS}{s:Shared}
theorem zh9{h1:Heap}{t:Nat}{qual p:Str}{f:Addr}{cd u:Value}{v:V}(S:wa X scope)(hd:X.A.handled=none)(I:Inv X pins σ H s)(hp:scope.names.lookup p=some .local)(hN:N'[0]?=some p)(rv:RelV v u)
  (hn:h1.Ns s.heap.objs.size fun x=>([(p,u)]:List (Str×Value)).reverse.lookup x) (hsb:∀b o,s.heap.get? b=some o→h1.get? b=some o) (hl:σ'.length=N'.length) (h0:σ'[0]?=some (some v))
  (hσ:∀(i:Nat) (v:V),i≠0→σ'[i]?=some (some v)→∃(x:Str) (j:Nat),N'[i]?=some x∧X.N[j]?=some x∧σ[j]?=some (some v)∧scope.names.lookup x=some .free) :
  Inv (X.lam scope N' s H qual f cd) [] σ' H { s with heap:=h1,toks:=t }:=by
 have hH:H s.heap.objs.size=none:=I.hok.fresh (Nat.le_refl _)
 have cl:∀{x c},(wI scope X.env).lookup x=some c→X.env.cells.lookup x=some c:=fun h=>YM S I.ok h
 have kept:∀{c v},s.heap.IsCell c v→h1.IsCell c v:=fun ⟨o,e,d⟩=>⟨o,hsb _ o e,d⟩
 have noA:∀b:Addr,b∉(X.lam scope N' s H qual f cd).ex:=fun b z=>absurd (show b∈([]:List Addr) from z) (by simp)
 refine⟨⟨I.ok.mod,S.kind,rfl,rfl,Nat.le_refl _,fun x y c e1 e2=>I.ok.inj x y c (cl e1) (cl e2),fun x hx=>?_,fun x c hf _=>absurd hf (by simp[Cx.lam]),fun _=>hd,Around.frames_deeper (show X.A.in1.in1.frames=some X.stack from I.ok.frames),.inr ⟨rfl,rfl⟩,fun b z=>absurd z (noA b),I.bs,Nat.le_trans I.ok.bsz I.sz,fun b _ _=>noA b,fun b z=>absurd z (noA b),I.stack,I.stkFree⟩,
  I.os.symm ▸ rfl,I.bare,Un.kept hsb,⟨_,hn,fun i x v' e1 e2 e3=>?_⟩,fun x c e=>?_,hH,fun x c e=>I.freeC x c (cl e),fun p hp=>absurd (show p∈([]:List (Addr×Obj)) from hp) (by simp),I.hok.kept hsb,hl⟩
 ·have hx:scope.names.lookup x=some .cell∨scope.names.lookup x=some .free:=hx
  rcases hx with z|z
  ·exact absurd rfl (S.nocell _ (PySem.mem_of_lookup z))
  ·exact jL (.inl ⟨_,PySem.mem_of_lookup z,rfl,rfl⟩)
 ·have e1:N'[i]?=some x:=e1
  by_cases hi:i=0
  ·subst hi
   rw[hN] at e1;replace e1:=sI_ e1;subst e1
   rw[h0] at e2;replace e2:=uI_ e2;subst e2
   exact Y11 u rv (.inl ⟨hp,by simp[List.lookup]⟩)
  ·refine X23 (hσ i v' hi e2) fun x' j e4 e5 e6 e9=>?_
   have hy:=PySem.mem_of_lookup e9
   rw[e1] at e4;replace e4:=sI_ e4;subst e4
   have kd:=S.free _ hy rfl
   refine X11 I.loc fun m hm hl=>?_
   refine X11 (hl j x v' e5 e6 (kd.elim (fun z=>.inr (.inl z)) fun z=>.inr (.inr z))) fun u' ru lk=>?_
   refine Y11 u' ru ?_
   rcases lk with ⟨z,_⟩|⟨z,c,hc,hcell⟩
   ·rcases kd with k|k <;> rw[k] at z <;> cases z
   ·obtain⟨c',hc'⟩:=jL (env:=X.env) (names:=scope.names) (cs:=[]) (x:=x) (.inl ⟨_,hy,rfl,rfl⟩)
    have:=cl hc'
    rw[hc] at this;replace this:=sI_ this;subst this
    exact .inr ⟨.inr e9,c,hc',kept hcell⟩
 ·obtain⟨v,z⟩:=I.cell x c (cl e)
  exact⟨v,kept z⟩
noncomputable def MH(idx:List Nat)(fb:FE)(τ:DS)(d:D):Rs D:=fb ((vx 1 idx τ).set 0 (some (.val d)))
theorem LF{f c':Addr}{qual p:Str}{params:Arguments}{body:Expr}{pm ctv u:Value}{v:V}{d dk:D}{fr:List Str}{idx:List Nat}{fb:FE}{Q:VK}(S:wa X scope)(hr:Room 3 X.A)(hfr:FreeOk scope X.N fr idx)(hp:scope.names.lookup p=some .local)
  (hco:scope.isCoroutine=false) (hgen:scope.isGenerator=false) (hbind:∀(pm cd ct:Value) (cl:List (Str×Addr)) (u:Value),bindArgs (kla_fn "<lambda>" qual params body scope cl pm cd ct) ⟨[u],[]⟩=pure [(p,u)])
  (hb:∀s H f cd,PDE (X.lam scope (p::fr) s H qual f cd) body fb)
  (I:Inv X pins σ H s) (R:RV X.K F τ σ H) (ho:s.heap.get? f=some (kla_obj "<lambda>" qual params body scope (wI scope X.env) pm c' ctv)) (hc:H c'=some (.ext (Wp c' qual))) (rd:Rep X.K F d v) (ru:RelV v u) (hk:MH idx fb τ d=.ok dk)
  (hQ:∀kv F1 H1,Ext F H F1 H1→Rep X.K F1 dk kv→Q kv H1):wpAny (model X.prog X.w) X.A.in1.in1 (call (.ref f) [u]) (EP X pins σ Q) (fun _ _=>False) s:=by
 have hcd:s.heap.CodeRec (.ref c') qual:=(I.hok c' _ hc).1
 refine wpAny_call (kla_callFunE (args:=⟨[u],[]⟩) (hr.in1.in1).depth ho rfl hco hgen rfl hcd ?_)
 rw[hbind]
 refine wpAny_pure (wpAny_newFunctionEnv S.nocell (fun y hy=>?_) (fun h1 hns hsb=>⟨(I.mod.nolimit.keeps I.bk).fresh _ hsb,?_⟩) S.kind)
 ·have:y=(p,u):=by simpa using hy
  subst this;exact hp
 have keep3:∀b o,s.heap.get? b=some o→h1.get? b=some o:=fun b o e=>hsb.extBut b o (Nat.ne_of_lt (Heap.lt_size e)) (get?_push_of_some _ e)
 show codeAny _ _ (.expr body (envX qual scope s.heap.objs.size f (.ref c') (wI scope X.env))) _ _
 have hlen:(wf 1 idx σ).length=(p::fr).length:=by simp[wf,hfr.len]
 have hl0:0<(wf 1 idx σ).length:=by rw[hlen];simp
 have J:Inv (X.lam scope (p::fr) s H qual f (.ref c')) [] ((wf 1 idx σ).set 0 (some v)) H { s with heap:=h1,toks:=s.toks+([(p,u)]:List (Str×Value)).length }:=
  zh9 S hr.hd I hp rfl ru hns keep3 (by rw[List.length_set];exact hlen) (by rw[List.getElem?_set_self hl0]) fun i v' hi e=>by
   rw[List.getElem?_set_ne (Ne.symm hi)] at e
   exact uV (tn:=[p]) hfr σ i v' e
 refine kla_codeExpr (wpAny_mono (hb s H f (.ref c') [] _ _ H (fun kv H1=>∃F1,Ext F H F1 H1∧Rep X.K F1 dk kv) J ⟨F,(vx 1 idx τ).set 0 (some (.val d)),(VQ 1 idx R).set rd,?_⟩) (fun w s5 h5=>?_) fun _ _ z=>z.elim)
 ·have hk:fb ((vx 1 idx τ).set 0 (some (.val d)))=.ok dk:=hk
  rw[hk]
  exact fun kv F1 H1 x r=>⟨F1,x,r⟩
 ·refine X22 h5 fun kv H5 I5 r5 r55_=>?_;refine X11 r55_ fun F5 x5 rk=>?_
  exact Y22 kv H5 (I.call' (ch:=[]) I5.os I5.base I5.hok I5.bare (fun b z=>absurd z (by simp))) r5 (hQ kv F5 H5 x5 rk)
end
open PySem.W
noncomputable def TabsU:Prop:=∀r∈Tabs.rows,∀r'∈Tabs.rows,r.1=r'.1→r=r'
theorem X4{α β:Type}{f:α→β}:∀{l:List α},(l.map f).Nodup→∀r∈l,∀r'∈l,f r=f r'→r=r'
 |[],_,_,h,_,_,_=>by cases h
 |a::l,nd,r,h,r',h',e=>by
  rw[List.map_cons,List.nodup_cons] at nd
  rcases List.mem_cons.mp h with z|z
  ·rcases List.mem_cons.mp h' with z' | z'
   ·rw[z,z']
   ·rw[z] at e
    exact absurd (List.mem_map.mpr ⟨r',z',e.symm⟩) nd.1
  ·rcases List.mem_cons.mp h' with z' | z'
   ·rw[z'] at e
    exact absurd (List.mem_map.mpr ⟨r,z,e⟩) nd.1
   ·exact X4 nd.2 r z r' z' e
theorem TabsU.of(h:(Tabs.rows.map (·.1)).Nodup):TabsU:=X4 h
section
variable{X:Cx}{scope:Scope}{pins:List (Addr×Obj)}{σ:St}{F H:Hp}{τ:DS}{s:Shared}
theorem LD{params:Arguments}{body:Expr}{lpos:Pos}{P c:Addr}{E:Value→Shared→Prop}{Q:Value→Shared→Prop}(tu:TabsU)(S:wa X scope)(bm:BM X.mg X.base)(hcode:X.env.code=.ref c)(hcd:codeHdIn X.K c P=true)(hrow:(P,lpos.line,lpos.col,X.env.qual ++ "<lambda>")∈Tabs.rows)
  (hdef:defaultsOf params X.env=([],[])) (I:Inv X pins σ H s) (fh:Same F H) (tt:TbT F H)
  (h:∀(f c':Addr) (pm ctv:Value) (H':Hp) (s':Shared),Inv X (pins++[(f,kla_obj "<lambda>" (X.env.qual ++ "<lambda>") params body scope (wI scope X.env) pm c' ctv)]) σ H' s'→Ext F H F H'→H' c'=some (.ext (Wp c' (X.env.qual ++ "<lambda>")))→Q (.ref f) s') :
  wpAny (model X.prog X.w) X.A (eval (.Lambda params body scope lpos) X.env) Q E s:=by
 obtain⟨bma,ob,b1,b2,b3,b4,b5,b6⟩:=bm
 obtain⟨b3,bH⟩:=I.bs _ _ b3
 have hgs:s.heap.Ns mainGlobals X.mg:=I.mod.glob.keeps I.bk
 have C:CodeHd s.heap c P:=codeHd_of_K (I.mod.kin.keeps I.bk) hcd
 have hcl:closureFor scope X.env=pure (wI scope X.env):=uB fun y hy e=>by
  obtain⟨c,hc⟩:=I.ok.has _ (S.free y hy e)
  rw[hc];rfl
 have hbG:bma≠mainGlobals:=fun q=>by
  obtain⟨o,es,ep,e,hd,_⟩:=hgs
  rw[← q,b3] at e;replace e:=sI_ e;subst e;rw[b6] at hd;nomatch hd
 obtain⟨tF,tt0⟩:=tt.1 _ hrow
 have hPs:∃ps,H P=some (.tbl ps):=by
  rcases tt0 with e|⟨c',e,_⟩
  ·exact⟨_,e⟩
  ·exact⟨_,e⟩
 obtain⟨ps0,hP0⟩:=hPs
 have hbP:bma≠P:=fun q=>by rw[q,hP0] at bH;nomatch bH
 have B:s.heap.BuiltinsAt X.mg P:=⟨bma,ob,b1,b2,hbG,hbP,b3,b4,b5,b6⟩
 refine kla_eval hdef ?_
 rcases tt0 with e|⟨c',e,ec⟩
 ·-- the first time
  have e:H P=some (.tbl #[]):=e
  have hP:s.heap.get? P=some (tabObj #[]):=I.hok P _ e
  have hgP:mainGlobals≠P:=fun q=>by
   obtain⟨o,es,ep,e',hd,_⟩:=hgs
   rw[q,hP] at e';replace e':=sI_ e';subst e';nomatch hd
  refine kla_makeFunction (mg:=X.mg) hcl I.ok.glob hgs hcode C hP trivial rfl hgP B fun c' ctv h' tk hx hge hlt hrec htb=>?_
  have hc0:H c'=none:=I.hok.fresh hge
  have hPc:P≠c':=fun z=>by rw[z,hc0] at e;nomatch e
  have hsz:s.heap.objs.size≤h'.objs.size:=Nat.le_trans hge (Nat.le_of_lt hlt)
  have htb:h'.get? P=some (tabObj #[rawInt lpos.line,rawInt lpos.col,.ref c']):=by simpa using htb
  let H':Hp:=upd (upd H P (.tbl #[rawInt lpos.line,rawInt lpos.col,.ref c'])) c' (.ext (Wp c' (X.env.qual ++ "<lambda>")))
  have hne:∀b,b≠P→b≠c'→H' b=H b:=fun b z1 z2=>by show upd (upd H P _) c' _ b=H b;rw[zj z2,zj z1]
  have hP':H' P=some (.tbl #[rawInt lpos.line,rawInt lpos.col,.ref c']):=by show upd (upd H P _) c' _ P=_;rw[zj hPc,zp]
  have hc':H' c'=some (.ext (Wp c' (X.env.qual ++ "<lambda>"))):=zp
  let fo:Obj:=kla_obj "<lambda>" (X.env.qual ++ "<lambda>") params body scope (wI scope X.env) ((X.mg "__name__").getD .none) c' ctv
  have kp:∀b o,b≠P→s.heap.get? b=some o→(h'.push fo).get? b=some o:=fun b o z q=>get?_push_of_some _ (hx b o z q)
  have nc:∀b o,s.heap.get? b=some o→b≠c':=fun b o q=>Nat.ne_of_lt (Nat.lt_of_lt_of_le (Heap.lt_size q) hge)
  have nP:∀b,H b=none→b≠P:=fun b q z=>by rw[z,e] at q;nomatch q
  have J:Inv X pins σ H' { s with heap:=h'.push fo,toks:=tk }:=by
   refine I.un (t':=tk) ⟨fun b o q n _ _=>kp b o (nP b n) q,fun b o q n _ _=>⟨o.slots,kp b o (nP b n) q⟩,fun b o q n _=>by rw[hne b (nP b n) (nc b o q)];exact n,fun b o q _=>?_,fun b xs q=>?_,fun b o u q=>?_,fun b ps q=>?_⟩ fun b u q=>?_
   ·by_cases z:b=P
    ·subst z;exact⟨_,get?_push_of_some _ htb⟩
    ·exact⟨o,kp b o z q⟩
   ·rw[hne b (fun z=>by rw[z,e] at q;nomatch q) (fun z=>by rw[z,hc0] at q;nomatch q)];exact q
   ·rw[hne b (fun z=>by rw[z,e] at q;nomatch q) (fun z=>by rw[z,hc0] at q;nomatch q)];exact q
   ·by_cases z:b=P
    ·subst z
     rw[e] at q;replace q:=L2.HO.tbl.inj (Option.some.inj q);subst q
     exact⟨#[rawInt lpos.line,rawInt lpos.col,.ref c'],by rw[hP'];simp⟩
    ·exact⟨#[],by rw[hne b z (fun z=>by rw[z,hc0] at q;nomatch q),q];simp⟩
   ·by_cases z2:b=c'
    ·subst z2
     rw[hc'] at q;replace q:=sI_ q;subst q
     have hr2:(h'.push fo).CodeRec (.ref b) (X.env.qual ++ "<lambda>"):=by
      obtain⟨c2,oc,vs,t,g1,g2,g3,g4⟩:=hrec
      exact⟨c2,oc,vs,t,g1,get?_push_of_some _ g2,g3,g4⟩
     refine⟨hr2,?_,fun h1 h2 g k=>?_⟩
     ·obtain⟨c2,oc,vs,t,g1,g2,g3,g4⟩:=hr2
      replace g1:=PySem.Value.ref.inj g1;subst g1
      exact⟨oc,g2⟩
     ·obtain⟨c2,oc,vs,t,g1,g2,g3,g4⟩:=g
      replace g1:=PySem.Value.ref.inj g1;subst g1
      exact⟨_,oc,vs,t,rfl,k _ g2,g3,g4⟩
    ·by_cases z:b=P
     ·subst z
      rw[hP'] at q;replace q:=sI_ q;subst q
      exact get?_push_of_some _ htb
     ·rw[hne b z z2] at q
      refine(I.hok b u q).stay (fun d v hd qd=>kp d v ?_ qd) (fun d qd=>?_) fun d xs qd=>?_
      ·rcases hd with y|y
       ·rw[y];exact z
       ·exact fun y'=>by rw[y',e] at y;nomatch y
      ·rw[hne d (fun y=>by rw[y,e] at qd;nomatch qd) (fun y=>by rw[y,hc0] at qd;nomatch qd)];exact qd
      ·rw[hne d (fun y=>by rw[y,e] at qd;nomatch qd) (fun y=>by rw[y,hc0] at qd;nomatch qd)];exact qd
  have hfz:s.heap.objs.size≤h'.objs.size:=hsz
  have nf:H' h'.objs.size=none:=by
   rw[hne _ (Nat.ne_of_gt (Nat.lt_of_lt_of_le (Heap.lt_size hP) hfz)) (Nat.ne_of_gt hlt)]
   exact I.hok.fresh hfz
  refine h h'.objs.size c' ((X.mg "__name__").getD .none) ctv H' _ (J.pins_of fun q hq=>?_) ⟨Same.refl F,fun b o q=>?_,fun b o q=>?_,fun _ _ q=>.inl q,fun t=>⟨fun r hr=>?_,fun d b q=>?_⟩⟩ hc'
  ·rcases List.mem_append.mp hq with hq|hq
   ·exact J.pin q (List.mem_append_right _ hq)
   ·have:q=(h'.objs.size,fo):=by simpa using hq
    subst this
    exact⟨Heap.get?_push_size _ rfl,nf,(Nat.ne_of_lt (Nat.lt_of_lt_of_le I.lt hfz)).symm,I.nofs hfz,fun v z=>nomatch z⟩
  ·by_cases z:b=P
   ·subst z;rw[e] at q;replace q:=sI_ q;subst q;exact⟨_,hP'⟩
   ·exact .of (by rw[hne b z (fun z=>by rw[z,hc0] at q;nomatch q)];exact q)
  ·have q':=fh b o q
   rw[hne b (fun z=>by rw[z,show F P=none from tF] at q;nomatch q) (fun z=>by rw[z,hc0] at q';nomatch q')]
   exact q'
  ·by_cases z:r.1=P
   ·obtain rfl:=tu r hr _ hrow z
    exact⟨tF,.inr ⟨c',hP',hc'⟩⟩
   ·obtain⟨t1,t2⟩:=t.1 r hr
    refine⟨t1,?_⟩
    rcases t2 with q|⟨c2,q,q2⟩
    ·exact .inl (by rw[hne _ z (fun z=>by rw[z,hc0] at q;nomatch q)];exact q)
    ·exact .inr ⟨c2,by rw[hne _ z (fun z=>by rw[z,hc0] at q;nomatch q)];exact q,by rw[hne _ (fun z=>by rw[z,e] at q2;nomatch q2) (fun z=>by rw[z,hc0] at q2;nomatch q2)];exact q2⟩
  ·have q:H d=some (.own b):=by
    by_cases z2:d=c'
    ·rw[z2,hc'] at q;nomatch q
    ·by_cases z:d=P
     ·rw[z,hP'] at q;nomatch q
     ·rw[hne d z z2] at q;exact q
   obtain⟨C,dx,vs,q2⟩:=t.2 d b q
   exact⟨C,dx,vs,by rw[hne b (fun z=>by rw[z,e] at q2;nomatch q2) (fun z=>by rw[z,hc0] at q2;nomatch q2)];exact q2⟩
 ·-- again
  have e:H P=some (.tbl #[rawInt lpos.line,rawInt lpos.col,.ref c']):=e
  have hP:s.heap.get? P=some (tabObj #[rawInt lpos.line,rawInt lpos.col,.ref c']):=I.hok P _ e
  refine kla_makeFunctionHit (mg:=X.mg) (cv:=.ref c') hcl I.ok.glob hgs hcode C hP trivial (codeAmong_snoc (c:=.ref c') [] trivial rfl) B fun ctv h' tk hk hsz=>?_
  let fo:Obj:=kla_obj "<lambda>" (X.env.qual ++ "<lambda>") params body scope (wI scope X.env) ((X.mg "__name__").getD .none) c' ctv
  have J:Inv X pins σ H { s with heap:=h'.push fo,toks:=tk }:=I.kept (t':=tk) fun b u q=>get?_push_of_some _ (hk b u q)
  refine h h'.objs.size c' ((X.mg "__name__").getD .none) ctv H _ (J.pins_of fun q hq=>?_) (Ext.refl fh) ec
  rcases List.mem_append.mp hq with hq|hq
  ·exact J.pin q (List.mem_append_right _ hq)
  ·have:q=(h'.objs.size,fo):=by simpa using hq
   subst this
   exact⟨Heap.get?_push_size _ rfl,I.hok.fresh hsz,(Nat.ne_of_lt (Nat.lt_of_lt_of_le I.lt hsz)).symm,I.nofs hsz,fun v z=>nomatch z⟩
noncomputable def vQ(idx:List Nat)(fb:FE)(τ:DS):List D→Rs (List D)
 |[]=>.ok []
 |d::r=>match MH idx fb τ d with
  |.ok k=>match vQ idx fb τ r with
   |.ok ks=>.ok (k::ks)
   |_=>.no
  |_=>.no
theorem YW{idx:List Nat}{fb:FE}{τ:DS}:∀{ds ks:List D},vQ idx fb τ ds=.ok ks→ks.length=ds.length∧∀(i:Nat) (d k:D),ds[i]?=some d→ks[i]?=some k→MH idx fb τ d=.ok k
 |[],ks,h=>by cases h;exact⟨rfl,fun i d k e=>by simp at e⟩
 |d::r,ks,h=>by
  unfold vQ at h
  cases q:MH idx fb τ d with
  |no=>rw[q] at h;nomatch h
  |ex c=>rw[q] at h;nomatch h
  |ok k=>
   rw[q] at h
   simp only at h
   cases q2:vQ idx fb τ r with
   |no=>rw[q2] at h;nomatch h
   |ex c=>rw[q2] at h;nomatch h
   |ok ks'=>
    rw[q2] at h;replace h:=oI_ h;subst h
    obtain⟨l,g⟩:=YW q2
    refine⟨by simp[l],fun i d' k' e1 e2=>?_⟩
    cases i with
    |zero=>simp at e1 e2;subst e1;subst e2;exact q
    |succ i=>exact g i d' k' (by simpa using e1) (by simpa using e2)
noncomputable def Yu(ks ds:List D):Rs D:=match YX ks with
 |some kz=>if ds.length<64∧kz.Nodup∧(∀k∈kz,k≠[]) then .ok (.lst ((wV (kz.zip ds)).map (·.2))) else .no
 |none=>.no
noncomputable def Wn(idx:List Nat)(fe fb:FE):FE:=fun τ=>(fe τ).bind fun d=>match d with
 |.lst ds=>match vQ idx fb τ ds with
  |.ok ks=>Yu ks ds
  |_=>.no
 |_=>.no
theorem G5{X:Cx}{ks ds:List D}{P:D→Prop}(h:Ok X (Yu ks ds) P):∃kz:List (List Int),ks=kz.map (fun k=>D.tup (k.map D.int))∧ds.length<64∧kz.Nodup∧(∀k∈kz,k≠[])∧P (.lst ((wV (kz.zip ds)).map (·.2))):=by
 unfold Yu at h
 cases q:YX ks with
 |none=>rw[q] at h;exact h.elim
 |some kz=>
  rw[q] at h
  simp only at h
  by_cases z:ds.length<64∧kz.Nodup∧(∀k∈kz,k≠[])
  ·rw[if_pos z] at h
   exact⟨kz,Jf q,z.1,z.2.1,z.2.2,h⟩
  ·rw[if_neg z] at h;exact h.elim
theorem Mo{x p:Str}{pp pos lpos kp:Pos}{e body:Expr}{params:Arguments}{fr:List Str}{idx:List Nat}{fe fb:FE}{P c:Addr}(hg:Gl X x)(hm:X.mg x=none)(hv:bootBuiltins x=some (.builtin "sorted"))(he:PDE X e fe)
  (hr:Room 3 X.A) (tu:TabsU) (bm:BM X.mg X.base) (hcode:X.env.code=.ref c) (hcd:codeHdIn X.K c P=true) (hrow:(P,lpos.line,lpos.col,X.env.qual ++ "<lambda>")∈Tabs.rows)
  (hsc:vT X.env.scope scope=true) (hfr:FreeOk scope X.N fr idx) (hp:scope.names.lookup p=some .local) (hco:scope.isCoroutine=false) (hgen:scope.isGenerator=false)
  (hbind:∀(pm cd ct:Value) (cl:List (Str×Addr)) (u:Value),bindArgs (kla_fn "<lambda>" (X.env.qual ++ "<lambda>") params body scope cl pm cd ct) ⟨[u],[]⟩=pure [(p,u)])
  (hb:∀s H f cd,PDE (X.lam scope (p::fr) s H (X.env.qual ++ "<lambda>") f cd) body fb) (hdef:defaultsOf params X.env=([],[]):=by rfl)
  (hn:x ≠ "__name__" := by decide) (hdb:(x==("__debug__" : Str))=false:=by decide) (h1:starEach [e] X.env=(false,eval e X.env)::starEach [] X.env:=by rfl) :
  PDE X (.Call (.Name x pp) [e] [⟨some "key", .Lambda params body scope lpos,kp⟩] pos) (Wn idx fe fb):=by
 rintro pins s σ H Q I ⟨F,τ,R,hq⟩
 have S:wa X scope:=xV hsc
 refine wpAny_Call_Name_kw (ja I hg hm hv ?_ hn hdb)
 refine callWith_kw ?_ (by rw[h1];rfl) (by rw[h1];rfl)
 have hqb:=hq.bind
 have ha:PDA X [e] (za fe zi):=zc he zk (by rw[h1])
 refine thn (ha pos pins s σ H (fun vs H1=>∃F1 d v,vs=[v]∧Ext F H F1 H1∧Rep X.K F1 d v∧fe τ=.ok d) I ⟨F,τ,R,?_⟩) fun us s1 hA=>?_
 ·unfold za zi
  cases z:fe τ with
  |no=>rw[z] at hqb;exact hqb.elim
  |ex cc=>rw[z] at hqb;exact hqb
  |ok d=>
   intro vs F1 H1 x1 rr
   obtain⟨v,rfl,rd⟩:=Reps.one rr
   exact⟨F1,d,v,rfl,x1,rd,rfl⟩
 obtain⟨vs,H1,I1,rvs,F1,d,v,rfl,x1,rd,ed⟩:=hA
 obtain⟨u,rfl,ru⟩:=Vals.one rvs
 rw[ed] at hqb
 have hqb:Ok X (match d with
  |.lst ds=>match vQ idx fb τ ds with
   |.ok ks=>Yu ks ds
   |_=>.no
  |_=>.no) (Ev X.K F H Q):=hqb
 cases d with
 |lst ds=>
  simp only at hqb
  cases z:vQ idx fb τ ds with
  |no=>rw[z] at hqb;exact hqb.elim
  |ex cc=>rw[z] at hqb;exact hqb.elim
  |ok ks=>
   rw[z] at hqb
   obtain⟨kz,ek,h64,nd,ne,hq⟩:=G5 (X:=X) hqb
   obtain⟨lk,hkeys⟩:=YW z
   simp only[Rep] at rd
   obtain⟨l,ws,rfl,hF1,rs⟩:=rd
   obtain rfl:u=Value.ref l:=ru
   refine kws_cons ?_
   refine LD (P:=P) (c:=c) tu S bm hcode hcd hrow hdef I1 x1.fh (x1.tt R.tt) fun f c' pm ctv H2 s2 I2 x2 hc2=>?_
   refine kws_nil ?_
   have R2:RV X.K F1 τ σ H2:=(R.ext x1).ext x2
   refine wpAny_mono (JR (E:=X.xe) (Q:=Q) (F:=F1) (kz:=kz) I2 x2.fh hF1 rs h64 (by rw[← lk,ek,List.length_map]) nd ne (fun i d k hd hk pins' s' F' H' v u Q' I' hpin x' rd' ru' hQ'=>?_) fun Da F' H' x' r'=>?_) (fun w s3 ⟨v3,H3,I3,r3,q3⟩=>⟨v3,H3,I3.pins_of fun q hq=>I3.pin q (List.mem_append_right _ (List.mem_append_left _ hq)),r3,q3⟩) fun _ _ z=>z
   ·refine LF S hr hfr hp hco hgen hbind hb I' (R2.ext x') (I'.pin _ (List.mem_append_right _ (hpin _ (List.mem_append_right _ (List.mem_singleton.mpr rfl))))).1 (x'.hh _ _ hc2) rd' ru' (hkeys i d _ hd ?_) hQ'
    rw[ek,List.getElem?_map,hk];rfl
   ·exact hq _ F' H' ((x1.trans x2).trans x') r'
 |_=>exact hqb.elim
end
section
variable{prog:Program}{w:World}{A:Around}{R:Result→Shared→Prop}{E:Value→Shared→Prop}{I S:Addr}{fp wr:List Addr}{n:Nat}{P:Nat→Value→Prop}{St:Nat→Heap→Prop}{kw:List (Str×Value)}
end
section
variable{X:Cx}{pos pp kp:Pos}{e e2:Expr}{fe f2:FE}
end
section
variable{K:Frag}{B Z F H:Hp}{τ:DS}{σ:St}
end
section
variable{X:Cx}{pos:Pos}{e tg:Expr}{st:Stmt}{ss:List Stmt}{fe:FE}{fs:FA}{f:FS}
noncomputable def scal:D→Bool
 |.non=>true
 |.bl _=>true
 |.int _=>true
 |.str _=>true
 |_=>false
theorem Tp{K:Frag}{F F':Hp}{d:D}{v:V}(h:scal d=true)(r:Rep K F d v):Rep K F' d v:=by
 cases d <;> first | (simp only[Rep] at r ⊢;exact r) | cases h
end
open PySem.W
section
variable{X:Cx}{pins:List (Addr×Obj)}{σ:St}{F H:Hp}{τ:DS}{s:Shared}{Q:VK}{E:Value→Shared→Prop}
end
open PySem.W
structure QH(K:Frag)(mg:Str→Option Value)(x:Str)(st:Stmt)(f c T:Addr):Prop where
 ex:∃(oc:Value) (od:Option Addr) (kV doc pm:Value) (an:Option Addr) (ct:Value) (osl:Array (Option Value)),K.lookup f=some ⟨oc,od,.func (fnOf x x (zG st) (zx st) (zh st) .none kV doc pm an (.ref c) ct),osl⟩
 cd:codeIn K (.ref c) x=true
 kp:keepIn K (.ref f)=true
 at_:mg x=some (.ref f)
 tab:codeHdIn K c T=true
section
variable{P:Program}{w:World}{K:Frag}{mg:Str→Option Value}{base:Heap}
theorem DefOk.mkL{x:Str}{st:Stmt}{f c T:Addr}{N ps:List Str}{k n:Nat}{fb:FS}(D:QH K mg x st f c T)(S:zD N ps (zh st))(hn:ps.length=n)
  (hb:∀(kV doc pm:Value) (an:Option Addr) (cdv ct:Value) (us:List Value),us.length=ps.length→bindArgs (fnOf x x (zG st) (zx st) (zh st) .none kV doc pm an cdv ct) ⟨us,[]⟩=pure (ps.zip us))
  (hbody:∀(A:Around) (outer:List Env) (s:Shared) (H:Hp) (E:XK),Room k (A.deeper (envOfC x (zh st) s.heap.objs.size f (.ref c))) →
   uc (jJ CX0 P w K mg base N x (zh st) f (.ref c) A outer s H E).nox (zx st) fb):DefOk P w K mg base x (k+1) n ps (wE N.length fb):=by
 obtain⟨oc,od,kV,doc,pm,an,ct,osl,lk⟩:=D.ex
 refine⟨f,_,?_,.all (hb kV doc pm an (.ref c) ct),D.kp,D.at_⟩
 refine zm6 lk D.cd S (fun vs H Q E h=>by rw[hn];exact h.1) fun A outer s H vs Q E hr h=>⟨_,(show PSs _ _ _ from hbody A outer s H E hr).nox,?_⟩
 obtain⟨hl,ds,Fz,fh,tt,r,h⟩:=h
 refine Y41 H Fz Fz (z0 N.length ds) (XC fh tt r) ?_
 unfold wE at h
 cases q:fb (z0 N.length ds) with
 |nx τ=>rw[q] at h;exact fun σ F' H' ff RR=>h .non F' H' RR.out (by simp only[Rep])
 |rt d=>rw[q] at h;exact fun v F' H' x rr=>h v F' H' x rr
 |ro d τ=>rw[q] at h;exact fun v σ F' H' ff RR rr=>h v F' H' RR.out rr
 |rb d τ=>rw[q] at h;exact h.elim
 |bk τ=>rw[q] at h;exact h.elim
 |ct τ=>rw[q] at h;exact h.elim
 |ex c=>rw[q] at h;exact h.elim
 |no=>rw[q] at h;exact h.elim
 |rs c τ=>rw[q] at h;exact h.elim
end
section
variable{X:Cx}{pos:Pos}{e a b:Expr}{es:List Expr}{fe fa fb:FE}{fs:FA}
end
noncomputable abbrev Fs:=List (Str×D)
noncomputable def xH(f:Str)(d:D):Fs→Fs
 |[]=>[(f,d)]
 | (g,x)::r=>if g=f then (g,d)::r else (g,x)::xH f d r
noncomputable def xX(f:Str):Fs→Option D
 |[]=>none
 | (g,x)::r=>if f=g then some x else xX f r
theorem Flds.look{K:Frag}{F H:Hp}{c f:Str}:∀{fs:Fs} {vs:List (Str×V)},Flds K F H c fs vs→match xX f fs with
  |some d=>∃v,vs.lookup f=some v∧Fld1 K F H c f d v
  |none=>vs.lookup f=none
 |[],[],_=>rfl
 | (g,d)::r,(g',v)::s,q=>by
  obtain⟨rfl,q2,q3⟩:=q
  have ih:=Flds.look (f:=f) q3
  unfold xX
  by_cases h:f=g
  ·have hb:(f==g)=true:=beq_iff_eq.mpr h
   rw[if_pos h]
   subst h
   exact Y11 v (by simp only[List.lookup,hb]) q2
  ·have hb:(f==g)=false:=beq_eq_false_iff_ne.mpr h
   rw[if_neg h]
   have e:List.lookup f ((g,v)::s)=List.lookup f s:=by simp only[List.lookup,hb]
   rw[e];exact ih
 |[],_::_,q=>q.elim
 |_::_,[],q=>q.elim
theorem Flds.length{K:Frag}{F H:Hp}{c:Str}:∀{fs:Fs} {vs:List (Str×V)},Flds K F H c fs vs→fs.length=vs.length
 |[],[],_=>rfl
 |_::r,_::s,q=>by rw[List.length_cons,List.length_cons,Flds.length q.2.2]
 |[],_::_,q=>q.elim
 |_::_,[],q=>q.elim
theorem Flds.put{K:Frag}{F H:Hp}{c f:Str}{d:D}{v:V}(r:Fld1 K F H c f d v):∀{fs:Fs} {vs:List (Str×V)},Flds K F H c fs vs→Flds K F H c (xH f d fs) (yU f v vs)
 |[],[],_=>⟨rfl,r,trivial⟩
 | (g,x)::t,(g',y)::s,q=>by
  obtain⟨rfl,q2,q3⟩:=q
  have ih:=Flds.put (f:=f) r q3
  unfold xH yU
  by_cases h:g=f
  ·rw[if_pos h,if_pos h];subst h;exact⟨rfl,r,q3⟩
  ·rw[if_neg h,if_neg h];exact⟨rfl,q2,ih⟩
 |[],_::_,q=>q.elim
 |_::_,[],q=>q.elim
theorem ownL_cons{H:Hp}{c f:Str}{v:V}{r:List (Str×V)}{l:Addr}:l∈zT H c ((f,v)::r)↔l∈yD H c f v∨l∈zT H c r:=List.mem_append
theorem XS{H:Hp}{c f:Str}{v:V}(h:Tabs.own c f=false)(h2:Tabs.own2 c f=false):yD H c f v=[]:=by
 unfold yD
 cases v with
 |ref l=>simp only;rw[if_neg (by rw[h];simp),if_neg (by rw[h2];simp)]
 |_=>rfl
theorem vc{H:Hp}{c f:Str}{l:Addr}(h:Tabs.own c f=true):yD H c f (.ref l)=[l]:=by
 unfold yD
 simp only
 rw[if_pos h]
theorem Yy{H:Hp}{c f:Str}{v:V}(h:Tabs.own c f=false)(h2:Tabs.own2 c f=false):∀vs:List (Str×V),zT H c (yU f v vs)=zT H c vs:=by
 intro l_
 induction l_ with
 |nil=>
  show yD H c f v++[]=[];rw[XS h h2];rfl
 |cons p_ r ih_=>
  obtain⟨g,x⟩:=p_
  rw[show yU f v ((g,x)::r)=(if g=f then (g,v)::r else (g,x)::yU f v r) from rfl]
  by_cases z:g=f
  ·subst z
   rw[if_pos rfl]
   show yD H c g v++zT H c r=yD H c g x++zT H c r
   rw[XS h h2,XS h h2]
  ·rw[if_neg z]
   show yD H c g x++zT H c (yU f v r)=yD H c g x++zT H c r
   rw[ih_]
theorem XR{H:Hp}{c f:Str}{l p:Addr}(ho:Tabs.own c f=true):∀{vs:List (Str×V)},l∈zT H c (yU f (.ref p) vs)→l=p∨l∈zT H c vs
 |[],h=>by
  rcases ownL_cons.mp h with z|z
  ·rw[vc ho] at z;exact .inl (by simpa using z)
  ·cases z
 | (g,x)::r,h=>by
  rw[show yU f (.ref p) ((g,x)::r)=(if g=f then (g,.ref p)::r else (g,x)::yU f (.ref p) r) from rfl] at h
  by_cases z:g=f
  ·rw[if_pos z] at h
   rcases ownL_cons.mp h with e|e
   ·subst z;rw[vc ho] at e;exact .inl (by simpa using e)
   ·exact .inr (ownL_cons.mpr (.inr e))
  ·rw[if_neg z] at h
   rcases ownL_cons.mp h with e|e
   ·exact .inr (ownL_cons.mpr (.inl e))
   ·rcases XR ho e with e|e
    ·exact .inl e
    ·exact .inr (ownL_cons.mpr (.inr e))
theorem ownL_nd{H:Hp}{c f:Str}{v:V}{r:List (Str×V)}:(zT H c ((f,v)::r)).Nodup↔(yD H c f v).Nodup∧(zT H c r).Nodup∧∀l∈yD H c f v,l∉zT H c r:=by
 show(yD H c f v++zT H c r).Nodup↔_
 rw[List.nodup_append]
 exact⟨fun ⟨a,b,d⟩=>⟨a,b,fun l h1 h2=>d l h1 l h2 rfl⟩,fun ⟨a,b,d⟩=>⟨a,b,fun l h1 m h2 e=>d l h1 (by rw[e];exact h2)⟩⟩
theorem YS{H:Hp}{c f:Str}{p:Addr}(ho:Tabs.own c f=true):∀{vs:List (Str×V)},(zT H c vs).Nodup→p∉zT H c vs→(zT H c (yU f (.ref p) vs)).Nodup
 |[],_,_=>ownL_nd.mpr ⟨by rw[vc ho];simp,(show([]:List Addr).Nodup from List.nodup_nil),fun _ _ h=>(by cases h)⟩
 | (g,x)::r,h,hp=>by
  rw[show yU f (.ref p) ((g,x)::r)=(if g=f then (g,.ref p)::r else (g,x)::yU f (.ref p) r) from rfl]
  refine X02 (ownL_nd.mp h) fun h0 h2 h1=>?_
  have hp2:p∉zT H c r:=fun z=>hp (ownL_cons.mpr (.inr z))
  by_cases z:g=f
  ·subst z
   rw[if_pos rfl]
   refine ownL_nd.mpr ⟨by rw[vc ho];simp,h2,fun l e=>?_⟩
   rw[vc ho] at e
   have:l=p:=by simpa using e
   subst this
   exact hp2
  ·rw[if_neg z]
   refine ownL_nd.mpr ⟨h0,YS ho h2 hp2,fun l e1 hm=>?_⟩
   rcases XR ho hm with e|e
   ·subst e;exact hp (ownL_cons.mpr (.inl e1))
   ·exact h1 l e1 e
theorem jX{H:Hp}{c f:Str}{l:Addr}(ho:Tabs.own c f=true):∀{s:List (Str×V)},s.lookup f=some (.ref l)→l∈zT H c s
 |[],z=>by cases z
 | (g,w)::s,z=>by
  by_cases h:f=g
  ·subst h
   have:w=.ref l:=by simpa[List.lookup] using z
   subst this
   exact ownL_cons.mpr (.inl (by rw[vc ho];exact List.mem_cons_self))
  ·have hb:(f==g)=false:=beq_eq_false_iff_ne.mpr h
   exact ownL_cons.mpr (.inr (jX ho (by simpa[List.lookup,hb] using z)))
theorem Flds.updL{K:Frag}{F H:Hp}{c f:Str}{l:Addr}{ds:List D}{ws:List V}(ho:Tabs.own c f=true)(r:Reps K F ds ws):∀{fs:Fs} {vs:List (Str×V)},Flds K F H c fs vs→(zT H c vs).Nodup→vs.lookup f=some (.ref l)→Flds K F (upd H l (.lst ws)) c (xH f (.lst ds) fs) vs∧zT (upd H l (.lst ws)) c vs=zT H c vs
 |[],[],_,_,e=>by cases e
 | (g,x)::t,(g',y)::s,q,nd,e=>by
  obtain⟨rfl,q2,q3⟩:=q
  refine X02 (ownL_nd.mp nd) fun n0 n2 n1=>?_
  unfold xH
  by_cases h:g=f
  ·subst h
   rw[if_pos rfl]
   have:y=.ref l:=by simpa[List.lookup] using e
   subst this
   unfold Fld1 at q2
   rw[if_pos ho] at q2
   refine X34 q2 fun ds0 l' ws0 e1 e2 e3 e4 e5=>?_
   replace e2:=rI_ e2;subst e2
   have kk:∀l2 ws2,l2∈zT H c s→H l2=some (.lst ws2)→upd H l (.lst ws) l2=some (.lst ws2):=fun l2 ws2 hl e6=>by
    have:l2≠l:=fun z=>by subst z;exact n1 l2 (by rw[vc ho];exact List.mem_cons_self) hl
    rw[zj this];exact e6
   refine⟨⟨rfl,?_,q3.keep (Same.refl F) fun l2 ws2 hl e6 e7=>⟨kk l2 ws2 hl e6,e7⟩⟩,?_⟩
   ·unfold Fld1;rw[if_pos ho];exact⟨ds,l,ws,rfl,rfl,zp,e4,r⟩
   ·show yD _ c g (.ref l)++zT _ c s=yD H c g (.ref l)++zT H c s
    rw[vc ho,vc ho,q3.same kk]
  ·rw[if_neg h]
   have hb:(f==g)=false:=beq_eq_false_iff_ne.mpr fun z=>h z.symm
   have e':s.lookup f=some (.ref l):=by simpa[List.lookup,hb] using e
   obtain⟨i1,i2⟩:=Flds.updL ho r q3 n2 e'
   have hin:l∈zT H c s:=jX ho e'
   have kk:∀l2 ws2,l2∈yD H c g y→H l2=some (.lst ws2)→upd H l (.lst ws) l2=some (.lst ws2):=fun l2 ws2 hl e6=>by
    have:l2≠l:=fun z=>by subst z;exact n1 l2 hl hin
    rw[zj this];exact e6
   refine⟨⟨rfl,q2.keep (Same.refl F) fun l2 ws2 hl e6 e7=>⟨kk l2 ws2 hl e6,e7⟩,i1⟩,?_⟩
   show yD _ c g y++zT _ c s=yD H c g y++zT H c s
   rw[q2.same kk,i2]
 |[],_::_,q,_,_=>q.elim
 |_::_,[],q,_,_=>q.elim
noncomputable def uz(τ:DS)(i:Nat)(c:Str):Rs Fs:=match τ[i]? with
 | some (some (.obj _ c' fs))=>if c'=c then .ok fs else .no
 | some (some (.obr c' fs))=>if c'=c then .ok fs else .no
 |_=>.no
noncomputable def v0(τ:DS)(i:Nat)(c:Str):Rs (Nat×Fs):=match τ[i]? with
 | some (some (.obj n c' fs))=>if c'=c then .ok (n,fs) else .no
 |_=>.no
theorem um{X:Cx}{τ:DS}{i:Nat}{c:Str}{P:Nat×Fs→Prop}(h:Ok X (v0 τ i c) P):∃n fs,τ[i]?=some (some (.obj n c fs))∧P (n,fs):=by
 unfold v0 at h
 split at h
 ·rename_i n c' fs e
  by_cases z:c'=c
  ·subst z;rw[if_pos rfl] at h;exact Y21 n fs e h
  ·rw[if_neg z] at h;exact h.elim
 ·exact h.elim
theorem Z1{X:Cx}{F H:Hp}{τ:DS}{σ:St}{i:Nat}{c:Str}{P:Fs→Prop}(R:RV X.K F τ σ H)(h:Ok X (uz τ i c) P) :
  ∃fs a C dx vs,σ[i]?=some (some (.ref a))∧H a=some (.ins C dx vs)∧nsIn X.K mainGlobals c=some (some (.ref C))∧Flds X.K F H c fs vs∧P fs:=by
 unfold uz at h
 split at h
 ·rename_i n c' fs e
  by_cases z:c'=c
  ·subst z;rw[if_pos rfl] at h
   refine X11 (R.ob.at_ i n c' fs e) fun a h1 r56_=>?_;refine X34 r56_ fun C dx vs h2 h3 h4 h5 _=>?_
   exact⟨fs,a,C,dx,vs,h1,h2,h4,h5,h⟩
  ·rw[if_neg z] at h;exact h.elim
 ·rename_i c' fs e
  by_cases z:c'=c
  ·subst z;rw[if_pos rfl] at h
   obtain⟨a,C,dx,vs,h1,h2,h4,h5⟩:=R.ob.rd i c' fs e
   exact⟨fs,a,C,dx,vs,h1,h2,h4,h5,h⟩
  ·rw[if_neg z] at h;exact h.elim
 ·exact h.elim
noncomputable def eAt(i:Nat)(c f:Str):FE:=fun τ=>(uz τ i c).bind fun fs=>match xX f fs with
 |some d=>.ok d
 |none=>.no
section
variable{X:Cx}{pos:Pos}{e:Expr}{es:List Expr}{fe:FE}{fs:FA}{C:Addr}{c f x:Str}{i:Nat}
theorem uw{p1:Pos}(hx:PE X (.Name x p1) (xf i))(hC:nsIn X.K mainGlobals c=some (some (.ref C)))(cl:Cls X.K C)(na:NoAttr X.K C f)(ho:Tabs.own c f=false∧Tabs.own2 c f=false:=by exact⟨rfl,rfl⟩)
  (hb:attributeBase (.Name x p1) f X.env (eval (.Name x p1) X.env)=eval (.Name x p1) X.env:=by rfl):PDE X (.Attribute (.Name x p1) f pos) (eAt i c f):=
 PE.imp (TK hx hb) fun σ H Q z_=>by
  refine X21 z_ fun F τ R h=>?_
  obtain⟨fs,a,C',dx,vs,h1,h2,h3,h4,h5⟩:=Z1 R h.bind
  rw[hC] at h3
  obtain rfl:C=C':=by replace h3:=PySem.Value.ref.inj (Option.some.inj (Option.some.inj h3));subst h3;rfl
  have l:=h4.look (f:=f)
  cases q:xX f fs with
  |none=>rw[q] at h5;exact h5.elim
  |some d=>
   rw[q] at h5 l
   refine X11 l fun v l1 l2=>?_
   unfold Fld1 at l2
   rw[if_neg (by rw[ho.1];simp),if_neg (by rw[ho.2];simp)] at l2
   exact⟨_,h1,a,C,dx,vs,v,rfl,h2,cl,na,l1,h5 v F H (Ext.refl R.fh) l2⟩
end
theorem LH{o:HO}{r r':Option HO}(a:Kp o r)(b:∀u:HO,r=Option.some u→Kp u r'):Kp o r':=by
 cases o <;> first|exact b _ a | (obtain⟨ps,q⟩:=a;have h2:=b (HO.tbl ps) q;exact h2)
theorem RV.objset{K:Frag}{F F' H H':Hp}{τ:DS}{σ:St}{i n:Nat}{c:Str}{fs fs':Fs}{a C dx:Addr}{vs:List (Str×V)}(R:RV K F τ σ H)(hi:τ[i]?=some (some (.obj n c fs)))(ha:σ[i]?=some (some (.ref a)))(he:H a=some (.ins C dx vs))
  (ff:Same F F') (fh:Same F' H') (tt:TbT F' H') (kp:∀b u,b≠a→b∉zT H c vs→H b=some u→Kp u (H' b)) (nwF:∀b o,F' b=some o→F b=some o∨H b=none∨b=a∨b∈zT H c vs)
  (ob:WR K F' H' c fs' a) (nw:∀l∈Lof H' c a,l∈zT H c vs∨H l=none):RV K F' (τ.set i (some (.obj n c fs'))) σ H':=by
 have hl:i<τ.length:=(List.getElem?_eq_some_iff.mp hi).1
 have hfl:Flds K F H c fs vs:=by
  refine X11 (R.ob.at_ i n c fs hi) fun a' q1 r57_=>?_;refine X34 r57_ fun C' dx' vs' q2 _ _ q5 _=>?_
  rw[ha] at q1;replace q1:=tI_ q1;subst q1
  rw[he] at q2;cases q2;exact q5
 have nl:∀{b:Addr} {u:HO},H b=some u→(∀ws,u≠.lst ws)→b∉zT H c vs:=fun {b u} e m z=>by
  refine X01 (hfl.own z) fun _ r58_=>?_;refine X10 r58_ fun ws q=>?_
  rw[e] at q;replace q:=sJ_ q;subst q;exact m _ rfl
 have na:∀{b:Addr} {u:HO},H b=some u→(∀C dx vs,u≠.ins C dx vs)→b≠a:=fun {b u} e m z=>by
  subst z;rw[he] at e;replace e:=sI_ e;subst e;exact m _ _ _ rfl
 have nf:∀{b:Addr} {u:HO},b≠a→b∉zT H c vs→H b=some u→F b=none→F' b=none:=fun {b u} h1 h2 e h3=>by
  cases q:F' b with
  |none=>rfl
  |some w=>
   rcases nwF b w q with z|z|z|z
   ·rw[h3] at z;nomatch z
   ·rw[e] at z;nomatch z
   ·exact absurd z h1
   ·exact absurd z h2
 have bk:∀{j:Nat} {s:Option Sl},(∀m c1 g,s≠some (.obj m c1 g))→(τ.set i (some (.obj n c fs')))[j]?=some s→i≠j∧τ[j]?=some s:=fun {j s} m h=>by
  by_cases e:i=j
  ·subst e;rw[List.getElem?_set_self hl] at h;replace h:=sI_ h;subst h;exact absurd rfl (m _ _ _)
  ·rw[List.getElem?_set_ne e] at h;exact⟨e,h⟩
 have bs:∀{j:Nat} {c1:Str},i≠j→ObS (τ.set i (some (.obj n c fs')))[j]? c1→ObS τ[j]? c1:=fun {j c1} e h=>by
  rw[List.getElem?_set_ne e] at h;exact h
 have oth:∀{j:Nat} {c1:Str} {a':Addr},i≠j→ObS τ[j]? c1→σ[j]?=some (some (.ref a'))→a'≠a∧Lof H' c1 a'=Lof H c1 a'∧∀l∈Lof H c1 a',l≠a∧l∉zT H c vs:=fun {j c1 a'} e h ea=>by
  have n1:a'≠a:=fun z=>by subst z;exact R.ob.dis i j n c c1 fs a' e hi h ha ea
  obtain⟨a2,C',dx',vs',gs,h1,h2,h3⟩:=R.ob.get h
  rw[ea] at h1;replace h1:=tI_ h1;subst h1
  have ap:∀l∈Lof H c1 a',l≠a∧l∉zT H c vs:=fun l hl2=>⟨fun z=>?_,fun z=>?_⟩
  refine⟨n1,?_,ap⟩
  ·rw[Lof.ins h2,Lof.ins (show H' a'=some (.ins C' dx' vs') from kp a' _ n1 (nl h2 fun _ z=>nomatch z) h2)]
   exact h3.same fun l ws q e1=>by
    obtain⟨m1,m2⟩:=ap l (by rw[Lof.ins h2];exact q)
    exact kp l _ m1 m2 e1
  ·subst z
   rw[Lof.ins h2] at hl2
   refine X01 (h3.own hl2) fun _ r59_=>?_;refine X10 r59_ fun ws q=>?_
   rw[he] at q;nomatch q
  ·exact R.ob.ll i j n c c1 fs a a' l e hi h ha ea (by rw[Lof.ins he];exact z) hl2
 refine⟨fh,by simp[R.len],fun j d h=>?_,fun j ds h=>?_,fun j k ds es b hjk h1 h2 h3 h4=>R.dis j k ds es b hjk (bk (fun _ _ _ z=>by nomatch z) h1).2 (bk (fun _ _ _ z=>by nomatch z) h2).2 h3 h4,tt,⟨fun j m c1 g h=>?_,fun j k m c1 c2 g1 b hjk h1 h2 h3 h4=>?_,fun j c1 g h=>?_,fun j k m c1 c2 g1 b b' l hjk h1 h2 h3 h4 h5 h6=>?_,fun j k c1 ds b l h1 h2 h3 h4 h5=>?_⟩⟩
 ·refine X11 (R.val j d (bk (fun _ _ _ z=>by nomatch z) h).2) fun v h1 h2=>?_
  exact Y11 v h1 (h2.mono ff)
 ·have h:=(bk (fun _ _ _ z=>by nomatch z) h).2
  refine X23 (R.own j ds h) fun b ws q1 q2 q3 q4=>?_
  have n1:=na q2 fun _ _ _ z=>nomatch z
  have n2:b∉zT H c vs:=fun z=>R.ob.lo i j c ds a b (.inl ⟨n,fs,hi⟩) h ha q1 (by rw[Lof.ins he];exact z)
  exact⟨b,ws,q1,kp b _ n1 n2 q2,nf n1 n2 q2 q3,q4.mono ff⟩
 ·by_cases e:i=j
  ·subst e;rw[List.getElem?_set_self hl] at h;cases h;exact Y11 a ha ob
  ·rw[List.getElem?_set_ne e] at h
   refine X11 (R.ob.at_ j m c1 g h) fun a' q1 r60_=>?_;refine X35 r60_ fun C' dx' vs' q2 q3 q4 q5 q6 q7=>?_
   refine X02 (oth e (.inl ⟨m,g,h⟩) q1) fun n1 _ n3=>?_
   have n2:=nl q2 fun _ z=>nomatch z
   refine⟨a',q1,C',dx',vs',kp a' _ n1 n2 q2,nf n1 n2 q2 q3,q4,q5.keep ff fun l ws hl2 e3 e4=>?_,kp dx' _ (na q6 fun _ _ _ z=>nomatch z) (nl q6 fun _ z=>nomatch z) q6,?_⟩
   ·obtain⟨m1,m2⟩:=n3 l (by rw[Lof.ins q2];exact hl2)
    exact⟨kp l _ m1 m2 e3,nf m1 m2 e3 e4⟩
   ·rw[q5.same fun l ws q e1=>(by
     obtain⟨m1,m2⟩:=n3 l (by rw[Lof.ins q2];exact q)
     exact kp l _ m1 m2 e1)]
    exact q7
 ·by_cases e1:i=j
  ·subst e1
   have h2:=bs hjk h2
   exact R.ob.dis i k n c c2 fs b hjk hi h2 h3 h4
  ·rw[List.getElem?_set_ne e1] at h1
   by_cases e2:i=k
   ·subst e2
    have:b=a:=by rw[ha] at h4;replace h4:=tI_ h4;subst h4;rfl
    subst this
    exact(oth e1 (.inl ⟨m,g1,h1⟩) h3).1 rfl
   ·exact R.ob.dis j k m c1 c2 g1 b hjk h1 (bs e2 h2) h3 h4
 ·obtain⟨e,h⟩:=bk (fun _ _ _ z=>by nomatch z) h
  obtain⟨a',C',dx',vs',q1,q2,q4,q5⟩:=R.ob.rd j c1 g h
  refine X02 (oth e (.inr ⟨g,h⟩) q1) fun n1 _ n3=>?_
  refine⟨a',C',dx',vs',q1,kp a' _ n1 (nl q2 fun _ z=>nomatch z) q2,q4,q5.keep ff fun l ws hl2 e3 e4=>?_⟩
  obtain⟨m1,m2⟩:=n3 l (by rw[Lof.ins q2];exact hl2)
  exact⟨kp l _ m1 m2 e3,nf m1 m2 e3 e4⟩
 ·-- own lists of two
  have self:∀{k:Nat} {c2:Str} {b':Addr},i≠k→ObS τ[k]? c2→σ[k]?=some (some (.ref b'))→l∈Lof H' c a→l∈Lof H c2 b'→False:=fun {k c2 b'} e h eb m1 m2=>by
   rcases nw l m1 with z|z
   ·exact((oth e h eb).2.2 l m2).2 z
   ·obtain⟨a2,C',dx',vs',gs,g1,g2,g3⟩:=R.ob.get h
    rw[eb] at g1;replace g1:=tI_ g1;subst g1
    rw[Lof.ins g2] at m2
    refine X01 (g3.own m2) fun _ r61_=>?_;refine X10 r61_ fun ws q=>?_
    rw[z] at q;nomatch q
  by_cases e1:i=j
  ·subst e1
   rw[List.getElem?_set_self hl] at h1
   have ec:c=c1:=by cases h1;rfl
   subst ec
   have:b=a:=by rw[ha] at h3;replace h3:=tI_ h3;subst h3;rfl
   subst this
   have h2:=bs hjk h2
   rw[(oth hjk h2 h4).2.1] at h6
   exact self hjk h2 h4 h5 h6
  ·rw[List.getElem?_set_ne e1] at h1
   rw[(oth e1 (.inl ⟨m,g1,h1⟩) h3).2.1] at h5
   by_cases e2:i=k
   ·subst e2
    have ec:c=c2:=by
     rw[List.getElem?_set_self hl] at h2
     rcases h2 with ⟨_,_,h2⟩|⟨_,h2⟩
     ·cases h2;rfl
     ·nomatch h2
    subst ec
    have:b'=a:=by rw[ha] at h4;replace h4:=tI_ h4;subst h4;rfl
    subst this
    exact self e1 (.inl ⟨m,g1,h1⟩) h3 h6 h5
   ·have h2:=bs e2 h2
    rw[(oth e2 h2 h4).2.1] at h6
    exact R.ob.ll j k m c1 c2 g1 b b' l hjk h1 h2 h3 h4 h5 h6
 ·have h2:=(bk (fun _ _ _ z=>by nomatch z) h2).2
  by_cases e1:i=j
  ·subst e1
   have ec:c=c1:=by
    rw[List.getElem?_set_self hl] at h1
    rcases h1 with ⟨_,_,h1⟩|⟨_,h1⟩
    ·cases h1;rfl
    ·nomatch h1
   subst ec
   have:b=a:=by rw[ha] at h3;replace h3:=tI_ h3;subst h3;rfl
   subst this
   rcases nw l h5 with z|z
   ·exact R.ob.lo i k c ds b l (.inl ⟨n,fs,hi⟩) h2 ha h4 (by rw[Lof.ins he];exact z)
   ·refine X22 (R.own k ds h2) fun p ws q1 q2 _=>?_
    rw[h4] at q1;replace q1:=tI_ q1;subst q1
    rw[z] at q2;nomatch q2
  ·have h1:=bs e1 h1
   rw[(oth e1 h1 h3).2.1] at h5
   exact R.ob.lo j k c1 ds b l h1 h2 h3 h4 h5
theorem RS.objset{K:Frag}{B Z F F' H H':Hp}{τ:DS}{σ:St}{i n:Nat}{c:Str}{fs fs':Fs}{a C dx:Addr}{vs:List (Str×V)}(R:RS K B Z F τ σ H)(hi:τ[i]?=some (some (.obj n c fs)))(ha:σ[i]?=some (some (.ref a)))(he:H a=some (.ins C dx vs))
  (ff:Same F F') (fh:Same F' H') (tt:TbT F' H') (kp:∀b u,b≠a→b∉zT H c vs→H b=some u→Kp u (H' b)) (nwF:∀b o,F' b=some o→F b=some o∨H b=none∨b=a∨b∈zT H c vs)
  (ob:WR K F' H' c fs' a) (nw:∀l∈Lof H' c a,l∈zT H c vs∨H l=none):RS K B Z F' (τ.set i (some (.obj n c fs'))) σ H':=by
 have hl:i<τ.length:=(List.getElem?_eq_some_iff.mp hi).1
 obtain⟨hB,hBl⟩:=R.oo i n c fs a hi ha
 rw[Lof.ins he] at hBl
 have rv:=R.rv.objset hi ha he ff fh tt kp nwF ob nw
 refine⟨rv,fun b o e=>?_,R.zf.trans ff,fun b o e=>?_,fun j ds b h1 h2=>?_,fun j m c1 g b h1 h2=>?_,fun a0 d0 b1 b2 j m c1 g h=>?_,fun j c1 g b h1 h2=>?_⟩
 ·have n1:b≠a:=fun z=>by subst z;rw[hB] at e;nomatch e
  have n2:b∉zT H c vs:=fun z=>by rw[hBl b z] at e;nomatch e
  exact LH (R.bh b o e) fun u hu=>kp b u n1 n2 hu
 ·rcases nwF b o e with z|z|z|z
  ·exact R.nb b o z
  ·exact .inr (xm R.bh z)
  ·exact .inr (by rw[z];exact hB)
  ·exact .inr (hBl b z)
 ·by_cases e:i=j
  ·subst e;rw[List.getElem?_set_self hl] at h1;nomatch h1
  ·rw[List.getElem?_set_ne e] at h1;exact R.ob j ds b h1 h2
 ·by_cases e:i=j
  ·subst e
   rw[List.getElem?_set_self hl] at h1
   have ec:c=c1:=by cases h1;rfl
   subst ec
   have:b=a:=by rw[ha] at h2;replace h2:=tI_ h2;subst h2;rfl
   subst this
   refine⟨hB,fun l hl=>?_⟩
   rcases nw l hl with z|z
   ·exact hBl l z
   ·exact xm R.bh z
  ·rw[List.getElem?_set_ne e] at h1
   obtain⟨q1,q2⟩:=R.oo j m c1 g b h1 h2
   refine⟨q1,fun l hl=>q2 l ?_⟩
   refine X11 (R.rv.ob.at_ j m c1 g h1) fun a' p1 r62_=>?_;refine X34 r62_ fun C' dx' vs' p2 _ _ p2s _=>?_
   rw[h2] at p1;replace p1:=tI_ p1;subst p1
   have n1:b≠a:=fun z=>by subst z;exact R.rv.ob.dis i j n c c1 fs b e hi (.inl ⟨m,g,h1⟩) ha h2
   have n2:b∉zT H c vs:=fun z=>by
    refine X11 (R.rv.ob.at_ i n c fs hi) fun a2 p1 r63_=>?_;refine X34 r63_ fun C2 dx2 vs2 p3 _ _ p5 _=>?_
    rw[ha] at p1;replace p1:=tI_ p1;subst p1
    rw[he] at p3;cases p3
    refine X01 (p5.own z) fun _ r64_=>?_;refine X10 r64_ fun ws q=>?_
    rw[p2] at q;nomatch q
   rw[Lof.ins p2]
   rw[Lof.ins (show H' b=some (.ins C' dx' vs') from kp b _ n1 n2 p2)] at hl
   rw[← p2s.same fun l ws q e1=>(by
    have m1:l≠a:=fun z=>by
     subst z
     refine X01 (p2s.own q) fun _ r65_=>?_;refine X10 r65_ fun ws2 q2=>?_
     rw[he] at q2;nomatch q2
    have m2:l∉zT H c vs:=fun z=>R.rv.ob.ll i j n c c1 fs a b l e hi (.inl ⟨m,g,h1⟩) ha h2 (by rw[Lof.ins he];exact z) (by rw[Lof.ins p2];exact q)
    exact(show H' l=some (.lst ws) from kp l _ m1 m2 e1))]
   exact hl
 ·by_cases e:i=j
  ·subst e
   rw[List.getElem?_set_self hl] at h
   have em:n=m+1:=by cases h;rfl
   subst em
   exact R.sf a0 d0 b1 b2 i m c fs hi
  ·rw[List.getElem?_set_ne e] at h;exact R.sf a0 d0 b1 b2 j m c1 g h
 ·by_cases e:i=j
  ·subst e;rw[List.getElem?_set_self hl] at h1;nomatch h1
  ·rw[List.getElem?_set_ne e] at h1;exact R.ro j c1 g b h1 h2
theorem TOk.stepI{F H H':Hp}{r:Addr×Nat×Nat×Str}(t:TOk F H r)(k:∀a o,H a=some o→(∀C dx vs,o≠.ins C dx vs)→H' a=some o):TOk F H' r:=by
 refine⟨t.1,?_⟩
 rcases t.2 with e|⟨c,e,e2⟩
 ·exact .inl (k _ _ e fun _ _ _ z=>nomatch z)
 ·exact .inr ⟨c,k _ _ e (fun _ _ _ z=>nomatch z),k _ _ e2 fun _ _ _ z=>nomatch z⟩
theorem TbT.ins{F H:Hp}{a C dx:Addr}{vs vs':List (Str×V)}(t:TbT F H)(he:H a=some (.ins C dx vs)):TbT F (L2.upd H a (.ins C dx vs')):=
 ⟨fun r hr=>(t.1 r hr).stepI fun b o e n=>by
  have:b≠a:=fun z=>by subst z;rw[he] at e;replace e:=sI_ e;subst e;exact n _ _ _ rfl
  rw[zj this];exact e,fun d b e=>by
  have e:=wv (fun _ z=>by nomatch z) d b e
  obtain⟨C',dx',vs'',h⟩:=t.2 d b e
  by_cases z:b=a
  ·subst z;exact⟨C,dx,vs',zp⟩
  ·exact⟨C',dx',vs'',by rw[zj z];exact h⟩⟩
theorem RS.attV{K:Frag}{B Z F H:Hp}{τ:DS}{σ:St}{i n:Nat}{c f:Str}{fs:Fs}{a C dx:Addr}{vs:List (Str×V)}{d:D}{v:V}(R:RS K B Z F τ σ H)(hi:τ[i]?=some (some (.obj n c fs)))(ha:σ[i]?=some (some (.ref a)))(he:H a=some (.ins C dx vs))(ho:Tabs.own c f=false∧Tabs.own2 c f=false)(r:Rep K F d v) :
  RS K B Z F (τ.set i (some (.obj n c (xH f d fs)))) σ (L2.upd H a (.ins C dx (yU f v vs))):=by
 refine X11 (R.rv.ob.at_ i n c fs hi) fun a' q1 r66_=>?_;refine X35 r66_ fun C' dx' vs' q2 q3 q4 q5 q6 q7=>?_
 rw[ha] at q1;replace q1:=tI_ q1;subst q1
 rw[he] at q2;cases q2
 have hd:dx≠a:=fun z=>by subst z;rw[he] at q6;nomatch q6
 have sm:zT (L2.upd H a (.ins C dx (yU f v vs))) c vs=zT H c vs:=q5.same fun l ws _ e1=>by
  have:l≠a:=fun z=>by subst z;rw[he] at e1;nomatch e1
  rw[zj this];exact e1
 have hL:Lof (L2.upd H a (.ins C dx (yU f v vs))) c a=zT H c vs:=by rw[Lof.ins zp,Yy ho.1 ho.2,sm]
 refine R.objset hi ha he (Same.refl F) (fun b o e=>?_) (R.rv.tt.ins he) (fun b u h1 _ e=>.of (by rw[zj h1];exact e)) (fun b o e=>.inl e) ⟨C,dx,yU f v vs,zp,q3,q4,?_,by rw[zj hd];exact q6,by rw[Yy ho.1 ho.2,sm];exact q7⟩ fun l hl=>.inl (by rw[hL] at hl;exact hl)
 ·have:b≠a:=fun z=>by subst z;rw[q3] at e;nomatch e
  rw[zj this];exact R.rv.fh b o e
 ·refine(q5.put (f:=f) (d:=d) (v:=v) (by unfold Fld1;rw[if_neg (by rw[ho.1];simp),if_neg (by rw[ho.2];simp)];exact r)).keep (Same.refl F) fun l ws hl e1 e2=>⟨?_,e2⟩
  have:l≠a:=fun z=>by subst z;rw[he] at e1;nomatch e1
  rw[zj this];exact e1
noncomputable def sAt(i:Nat)(c f:Str)(fe:FE):FS:=fun τ=>Fl.of (fe τ) fun d=>Fl.of (v0 τ i c) fun p=>if p.2.length<1000 then .nx (τ.set i (some (.obj p.1 c (xH f d p.2)))) else .no
section
variable{X:Cx}{pos:Pos}{e:Expr}{es:List Expr}{fe:FE}{fs:FA}{C:Addr}{c f x:Str}{i:Nat}
theorem V0{p1 pos':Pos}(hx:PE X (.Name x p1) (xf i))(hC:nsIn X.K mainGlobals c=some (some (.ref C)))(cl:Cls X.K C)(na:NoAttr X.K C f)(he:PDE X e fe)(ho:Tabs.own c f=false∧Tabs.own2 c f=false:=by exact⟨rfl,rfl⟩)
  (hs:swapsWith e (some (.Attribute (.Name x p1) f pos')) pos.line X.env=pure false:=by rfl):PDS X (.Assign [.Attribute (.Name x p1) f pos'] e pos) (sAt i c f fe):=
 PS.imp (VY hx he hs) fun E σ H z_=>by
  refine X41 z_ fun B Z F τ R h=>?_
  refine tE.at R h.of fun d v F1 H1 g x R1 r=>?_
  refine X21 (um (X:=X) (Post.of g)) fun n fs h1 h2=>?_
  refine X11 (R1.rv.ob.at_ i n c fs h1) fun a q1 r67_=>?_;refine X34 r67_ fun C' dx vs q2 q3 q4 q5 q6=>?_
  rw[hC] at q4
  obtain rfl:C=C':=by replace q4:=PySem.Value.ref.inj (Option.some.inj (Option.some.inj q4));subst q4;rfl
  by_cases z:fs.length<1000
  ·dsimp only at h2
   rw[if_pos z] at h2
   exact⟨_,q1,a,C,dx,vs,rfl,q2,cl,na,by rw[← q5.length];exact z,h2 σ F1 _ x.ff (R1.attV h1 q1 q2 ho r)⟩
  ·dsimp only at h2
   rw[if_neg z] at h2;exact h2.elim
end
theorem RS.attN{K:Frag}{B Z F H:Hp}{τ:DS}{σ:St}{i n:Nat}{c f:Str}{fs:Fs}{a C dx p:Addr}{vs:List (Str×V)}{ds:List D}{ws:List V}(R:RS K B Z F τ σ H)(hi:τ[i]?=some (some (.obj n c fs)))(ha:σ[i]?=some (some (.ref a)))(he:H a=some (.ins C dx vs))(ho:Tabs.own c f=true)(hp:H p=none)(r:Reps K F ds ws) :
  RS K B Z F (τ.set i (some (.obj n c (xH f (.lst ds) fs)))) σ (L2.upd (L2.upd H p (.lst ws)) a (.ins C dx (yU f (.ref p) vs))):=by
 refine X11 (R.rv.ob.at_ i n c fs hi) fun a' q1 r68_=>?_;refine X35 r68_ fun C' dx' vs' q2 q3 q4 q5 q6 q7=>?_
 rw[ha] at q1;replace q1:=tI_ q1;subst q1
 rw[he] at q2;cases q2
 have hpa:p≠a:=fun z=>by subst z;rw[he] at hp;nomatch hp
 have hd:dx≠a:=fun z=>by subst z;rw[he] at q6;nomatch q6
 have hdp:dx≠p:=zC q6 hp
 have hFp:=zF R.rv.fh hp
 have hpl:p∉zT H c vs:=fun z=>by
  refine X01 (q5.own z) fun _ r69_=>?_;refine X10 r69_ fun ws' q=>?_
  rw[hp] at q;nomatch q
 have he':L2.upd H p (.lst ws) a=some (.ins C dx vs):=by rw[zj (Ne.symm hpa)];exact he
 have kpp:∀{b:Addr} {u:HO},b≠a→H b=some u→L2.upd (L2.upd H p (.lst ws)) a (.ins C dx (yU f (.ref p) vs)) b=some u:=fun {b u} h1 e=>by rw[zj h1,zj (zC e hp)];exact e
 have sm:zT (L2.upd (L2.upd H p (.lst ws)) a (.ins C dx (yU f (.ref p) vs))) c vs=zT H c vs:=q5.same fun l ws _ e1=>kpp (fun z=>by subst z;rw[he] at e1;nomatch e1) e1
 have t1:TbT F (L2.upd H p (.lst ws)):=R.rv.tt.step (fun _ _ e=>.inl e) (fun b o e _=>by rw[zj (zC e hp)];exact e) (wv fun _ z=>nomatch z)
 refine R.objset hi ha he (Same.refl F) (fun b o e=>?_) (t1.ins he') (fun b u h1 _ e=>.of (kpp h1 e)) (fun b o e=>.inl e) ⟨C,dx,yU f (.ref p) vs,zp,q3,q4,?_,kpp hd q6,YS ho (by rw[sm];exact q7) (by rw[sm];exact hpl)⟩ fun l hl=>?_
 ·have:b≠a:=fun z=>by subst z;rw[q3] at e;nomatch e
  exact kpp this (R.rv.fh b o e)
 ·have k1:Flds K F (L2.upd H p (.lst ws)) c fs vs:=q5.keep (Same.refl F) fun l ws' hl e1 e2=>⟨by rw[zj (zC e1 hp)];exact e1,e2⟩
  have k2:=k1.put (f:=f) (d:=.lst ds) (v:=.ref p) (by unfold Fld1;rw[if_pos ho];exact⟨ds,p,ws,rfl,rfl,zp,hFp,r⟩)
  refine k2.keep (Same.refl F) fun l ws' hl e1 e2=>⟨?_,e2⟩
  have:l≠a:=fun z=>by subst z;rw[he'] at e1;nomatch e1
  rw[zj this];exact e1
 ·rw[Lof.ins zp] at hl
  rcases XR ho hl with z|z
  ·subst z;exact .inr hp
  ·rw[sm] at z;exact .inl z
noncomputable def zd0(i:Nat)(c f:Str)(ff:FA):FS:=fun τ=>Fl.of (ff τ) fun ds=>Fl.of (v0 τ i c) fun p=>if p.2.length<1000 then .nx (τ.set i (some (.obj p.1 c (xH f (.lst ds) p.2)))) else .no
section
variable{X:Cx}{pos:Pos}{e:Expr}{es:List Expr}{fe:FE}{ff:FA}{C:Addr}{c f x:Str}{i:Nat}
theorem ze8{p1 pos':Pos}(hx:PE X (.Name x p1) (xf i))(hC:nsIn X.K mainGlobals c=some (some (.ref C)))(cl:Cls X.K C)(na:NoAttr X.K C f)(he:PDF X e ff)(ho:Tabs.own c f=true:=by rfl)
  (hs:swapsWith e (some (.Attribute (.Name x p1) f pos')) pos.line X.env=pure false:=by rfl):PDS X (.Assign [.Attribute (.Name x p1) f pos'] e pos) (zd0 i c f ff):=
 PS.imp (VY hx he hs) fun E σ H ⟨B,Z,F,τ,R,h⟩=>⟨F,τ,R.rv,h.of.imp fun ds g p ws F1 H1 x hp r=>by
  have R1:=R.ext x
  refine X21 (um (X:=X) (Post.of g)) fun n fs h1 h2=>?_
  refine X11 (R1.rv.ob.at_ i n c fs h1) fun a q1 r70_=>?_;refine X34 r70_ fun C' dx vs q2 q3 q4 q5 q6=>?_
  rw[hC] at q4
  obtain rfl:C=C':=by replace q4:=PySem.Value.ref.inj (Option.some.inj (Option.some.inj q4));subst q4;rfl
  have hpa:p≠a:=fun z=>by subst z;rw[q2] at hp;nomatch hp
  by_cases z:fs.length<1000
  ·dsimp only at h2
   rw[if_pos z] at h2
   exact⟨_,q1,a,C,dx,vs,rfl,by rw[zj (Ne.symm hpa)];exact q2,cl,na,by rw[← q5.length];exact z,h2 σ F1 _ x.ff (R1.attN h1 q1 q2 ho hp r)⟩
  ·dsimp only at h2
   rw[if_neg z] at h2;exact h2.elim⟩
end
noncomputable def U5(τ:DS)(i:Nat)(c f:Str):Rs (List D):=(uz τ i c).bind fun fs=>match xX f fs with
 | some (.lst ds)=>.ok ds
 |_=>.no
theorem V4{X:Cx}{F H:Hp}{τ:DS}{σ:St}{i:Nat}{c f:Str}{P:List D→Prop}(R:RV X.K F τ σ H)(ho:Tabs.own c f=true)(h:Ok X (U5 τ i c f) P) :
  ∃ds a C dx vs l ws,σ[i]?=some (some (.ref a))∧H a=some (.ins C dx vs)∧nsIn X.K mainGlobals c=some (some (.ref C))∧vs.lookup f=some (.ref l)∧H l=some (.lst ws)∧F l=none∧Reps X.K F ds ws∧P ds:=by
 obtain⟨fs,a,C,dx,vs,h1,h2,h3,h4,h5⟩:=Z1 R h.bind
 have l:=h4.look (f:=f)
 cases q:xX f fs with
 |none=>rw[q] at h5;exact h5.elim
 |some d=>
  rw[q] at h5 l
  refine X11 l fun v l1 l2=>?_
  unfold Fld1 at l2
  rw[if_pos ho] at l2
  obtain⟨ds,p,ws,rfl,rfl,e3,e4,e5⟩:=l2
  exact⟨ds,a,C,dx,vs,p,ws,h1,h2,h3,l1,e3,e4,e5,h5⟩
noncomputable def omO(τ:DS)(i:Nat)(c f:Str):Rs (Nat×Fs×List D):=(v0 τ i c).bind fun p=>match xX f p.2 with
 | some (.lst ds)=>.ok (p.1,p.2,ds)
 |_=>.no
structure OmW(K:Frag)(F H:Hp)(τ:DS)(σ:St)(i:Nat)(c f:Str)(P:Nat×Fs×List D→Prop)(n:Nat)(fs:Fs)(ds:List D)(a C dx:Addr)(vs:List (Str×V))(l:Addr)(ws:List V):Prop where
 b1:τ[i]?=some (some (.obj n c fs))
 b2:σ[i]?=some (some (.ref a))
 b3:H a=some (.ins C dx vs)
 b4:nsIn K mainGlobals c=some (some (.ref C))
 b5:vs.lookup f=some (.ref l)
 b6:H l=some (.lst ws)
 b7:F l=none
 b8:Reps K F ds ws
 b9:P (n,fs,ds)
theorem zq9{X:Cx}{F H:Hp}{τ:DS}{σ:St}{i:Nat}{c f:Str}{P:Nat×Fs×List D→Prop}(R:RV X.K F τ σ H)(ho:Tabs.own c f=true)(h:Ok X (omO τ i c f) P) :
  ∃n fs ds a C dx vs l ws,OmW X.K F H τ σ i c f P n fs ds a C dx vs l ws:=by
 refine X21 (um (X:=X) h.bind) fun n fs h1 h2=>?_
 refine X11 (R.ob.at_ i n c fs h1) fun a q1 r71_=>?_;refine X34 r71_ fun C dx vs q2 q3 q4 q5 q6=>?_
 have l:=q5.look (f:=f)
 dsimp only at h2
 cases q:xX f fs with
 |none=>rw[q] at h2;exact h2.elim
 |some d=>
  rw[q] at h2 l
  refine X11 l fun v l1 l2=>?_
  unfold Fld1 at l2
  rw[if_pos ho] at l2
  obtain⟨ds,p,ws,rfl,rfl,e3,e4,e5⟩:=l2
  exact⟨n,fs,ds,a,C,dx,vs,p,ws,h1,q1,q2,q4,l1,e3,e4,e5,h2⟩
theorem RS.attL{K:Frag}{B Z F H:Hp}{τ:DS}{σ:St}{i n:Nat}{c f:Str}{fs:Fs}{a C dx l:Addr}{vs:List (Str×V)}{ds:List D}{ws ws':List V}(R:RS K B Z F τ σ H)(hi:τ[i]?=some (some (.obj n c fs)))(ha:σ[i]?=some (some (.ref a)))(he:H a=some (.ins C dx vs))(ho:Tabs.own c f=true)(hl:vs.lookup f=some (.ref l))(hw:H l=some (.lst ws))(hF:F l=none)(r:Reps K F ds ws') :
  RS K B Z F (τ.set i (some (.obj n c (xH f (.lst ds) fs)))) σ (L2.upd H l (.lst ws')):=by
 refine X11 (R.rv.ob.at_ i n c fs hi) fun a' q1 r72_=>?_;refine X35 r72_ fun C' dx' vs' q2 q3 q4 q5 q6 q7=>?_
 rw[ha] at q1;replace q1:=tI_ q1;subst q1
 rw[he] at q2;cases q2
 have hin:=jX (H:=H) ho hl
 obtain⟨u1,u2⟩:=q5.updL ho r q7 hl
 have hal:a≠l:=fun z=>by subst z;rw[he] at hw;nomatch hw
 have hdl:dx≠l:=fun z=>by subst z;rw[q6] at hw;nomatch hw
 have he':L2.upd H l (.lst ws') a=some (.ins C dx vs):=by rw[zj hal];exact he
 refine R.objset hi ha he (Same.refl F) (fun b o e=>?_) (R.rv.tt.step (fun _ _ e=>.inl e) (fun b o e m=>?_) (wv fun _ z=>nomatch z)) (fun b u _ h2 e=>.of ?_) (fun b o e=>.inl e) ⟨C,dx,vs,he',q3,q4,u1,by rw[zj hdl];exact q6,by rw[u2];exact q7⟩ fun l' hl'=>.inl (by rw[Lof.ins he',u2] at hl';exact hl')
 ·have:b≠l:=fun z=>by subst z;rw[hF] at e;nomatch e
  rw[zj this];exact R.rv.fh b o e
 ·have:b≠l:=fun z=>by subst z;rw[hw] at e;replace e:=sI_ e;subst e;exact m _ rfl
  rw[zj this];exact e
 ·have:b≠l:=fun z=>by subst z;exact h2 hin
  rw[zj this];exact e
section
variable{X:Cx}{pos:Pos}{e:Expr}{es:List Expr}{fe:FE}{ff:FA}{C:Addr}{c f x:Str}{i:Nat}
theorem jk{p1 p2:Pos}(hx:PE X (.Name x p1) (xf i))(hb:attributeBase (.Name x p1) f X.env (eval (.Name x p1) X.env)=eval (.Name x p1) X.env:=by rfl):PE X (.Attribute (.Name x p1) f p2) (tFld X.K (xf i) f):=TK hx hb
noncomputable def Qw(i:Nat)(c f:Str)(fi:FE):FE:=fun τ=>(U5 τ i c f).bind fun ds=>(fi τ).bind fun k=>match k with
 |.int k=>match atI ds k with
  |some d=>.ok d
  |none=>.no
 |_=>.no
theorem zf2{p1 p2:Pos}{ix:Expr}{fi:FE}(hx:PE X (.Name x p1) (xf i))(hC:nsIn X.K mainGlobals c=some (some (.ref C)))(cl:Cls X.K C)(na:NoAttr X.K C f)(hi:PDE X ix fi)(ho:Tabs.own c f=true:=by rfl)(hs:vU ix:=by intro _ _;rfl):PDE X (.Subscript (.Attribute (.Name x p1) f p2) ix pos) (Qw i c f fi):=
 PE.imp (YQ ix_list (jk hx) hi hs) fun σ H Q z_=>by
  refine X21 z_ fun F τ R h=>?_
  obtain⟨ds,a,C',dx,vs,l,ws,h1,h2,h3,h4,h5,h6,h7,h8⟩:=V4 R ho (Ok.bind h)
  obtain rfl:C=C':=by rw[hC] at h3;replace h3:=PySem.Value.ref.inj (Option.some.inj (Option.some.inj h3));subst h3;rfl
  refine⟨_,h1,a,C,dx,vs,.ref l,rfl,h2,cl,na,h4,?_⟩
  refine tE.of R h8.bind fun k w F2 H2 g2 x2 R2 r2=>?_
  cases k with
  |int k=>
   simp only[Rep] at r2
   simp only at g2
   cases q:atI ds k with
   |none=>rw[q] at g2;exact g2.elim
   |some d=>
    rw[q] at g2
    refine X11 (Yo h7 q) fun v z1 z2=>?_
    exact⟨l,ws,k,v,rfl,r2,SqL.of (x2.hh _ _ h5),z1,g2 v F2 H2 x2 (z2.mono x2.ff)⟩
  |_=>exact g2.elim
noncomputable def JC(i:Nat)(c f:Str):FE:=fun τ=>(U5 τ i c f).bind fun ds=>.ok (.int ds.length)
theorem T1{p1 p2 p:Pos}(hx:PE X (.Name x p1) (xf i))(hC:nsIn X.K mainGlobals c=some (some (.ref C)))(cl:Cls X.K C)(na:NoAttr X.K C f)(hg:Gl X "len")(hm:X.mg "len" = none)(ho:Tabs.own c f=true:=by rfl)
  (he:starEach [.Attribute (.Name x p1) f p2] X.env=[(false,eval (.Attribute (.Name x p1) f p2) X.env)]:=by rfl) (hpl:(backTo pos (starEach [] X.env)).any (·.1)=false:=by rfl):PDE X (.Call (.Name "len" p) [.Attribute (.Name x p1) f p2] [] pos) (JC i c f):=
 PE.imp (pe_callB call_len_seq hg hm PySem.boot_len (xD (jk hx) vb (by rw[he];rfl)) (he:=by rw[he];rfl) (hpl:=hpl)) fun σ H Q z_=>by
  refine X21 z_ fun F τ R h=>?_
  obtain⟨ds,a,C',dx,vs,l,ws,h1,h2,h3,h4,h5,h6,h7,h8⟩:=V4 R ho (Ok.bind h)
  obtain rfl:C=C':=by rw[hC] at h3;replace h3:=PySem.Value.ref.inj (Option.some.inj (Option.some.inj h3));subst h3;rfl
  refine⟨_,h1,a,C,dx,vs,.ref l,rfl,h2,cl,na,h4,l,ws,rfl,.inl (SqL.of h5),?_⟩
  rw[← h7.length]
  exact h8 (.int ds.length) F H (Ext.refl R.fh) (by simp only[Rep])
noncomputable def UP(i:Nat)(c f:Str)(fe:FE):FS:=fun τ=>Fl.of (omO τ i c f) fun p=>Fl.of (fe τ) fun d=>if p.2.2.length<sizeLine then .nx (τ.set i (some (.obj p.1 c (xH f (.lst (p.2.2++[d])) p.2.1)))) else .no
theorem TW{p1 p2 apos cpos:Pos}(hx:PE X (.Name x p1) (xf i))(hC:nsIn X.K mainGlobals c=some (some (.ref C)))(cl:Cls X.K C)(na:NoAttr X.K C f)(he:PDE X e fe)(ho:Tabs.own c f=true:=by rfl)
  (hfew:((backTo cpos (starEach [e] X.env)).all (fun x=>!x.1)&&(backToKw cpos (keywordEach [] X.env)).all (fun x=>x.1.isSome)
   && decide ([e].length+([]:List Keyword).length+(if ([]:List Keyword).isEmpty then 0 else 1)<30))=true:=by rfl)
  (hline:(apos.endLine==cpos.line)=true:=by rfl) (hs:starEach [e] X.env=[(false,eval e X.env)]:=by rfl) (hplain:(backTo cpos (starEach [] X.env)).any (·.1)=false:=by rfl)
  (hbase:attributeBase (.Attribute (.Name x p1) f p2) "append" X.env (eval (.Attribute (.Name x p1) f p2) X.env)=eval (.Attribute (.Name x p1) f p2) X.env:=by rfl)
  (hsw:swapsWith (.Call (.Attribute (.Attribute (.Name x p1) f p2) "append" apos) [e] [] cpos) none pos.line X.env=pure false:=by rfl) :
  PDS X (.Expr (.Call (.Attribute (.Attribute (.Name x p1) f p2) "append" apos) [e] [] cpos) pos) (UP i c f fe):=
 PS.imp (jT (Q5 PySem.F.plainAttrs_list PySem.F.slot_list_append PySem.F.type_list_append uL (jk hx) (xD he vb (by rw[hs];rfl)) hbase hfew hline (by rw[hs];rfl) hplain) hsw) fun E σ H z_=>by
  refine X41 z_ fun B Z F τ R h=>?_
  obtain⟨n,fs,ds,a,C',dx,vs,l,ws,h0,h1,h2,h3,h4,h5,h6,h7,h8⟩:=zq9 R.rv ho (Post.of h)
  obtain rfl:C=C':=by rw[hC] at h3;replace h3:=PySem.Value.ref.inj (Option.some.inj (Option.some.inj h3));subst h3;rfl
  refine⟨_,h1,a,C,dx,vs,.ref l,rfl,h2,cl,na,h4,.inl ⟨rfl,ws,SqL.of h5⟩,?_⟩
  refine tE.at R (Post.of h8) fun d v F1 H1 g x R1 r=>?_
  have hF1:F1 l=none:=by
   cases q:F1 l with
   |none=>rfl
   |some w=>
    rcases x.nw l w q with z|z
    ·rw[h6] at z;nomatch z
    ·rw[h5] at z;nomatch z
  by_cases z:ds.length<sizeLine
  ·dsimp only at g
   rw[if_pos z] at g
   refine⟨l,ws,v,rfl,rfl,x.hh _ _ h5,by rw[← h7.length];exact z,?_⟩
   exact g _ F1 _ x.ff (R1.attL h0 h1 (x.hh _ _ h2) ho h4 (x.hh _ _ h5) hF1 ((h7.mono x.ff).append (Reps.cons r Reps.nil)))
  ·dsimp only at g
   rw[if_neg z] at g;exact g.elim
end
structure zw1(F B F' H':Hp):Prop where
 ff:Same F F'
 hh:Hh B H'
 fh:Same F' H'
 nw:∀a o,F' a=some o→F a=some o∨B a=none
 tt:TbT F' H'
theorem RS.outO{K:Frag}{B Z F H:Hp}{τ:DS}{σ:St}(R:RS K B Z F τ σ H):zw1 Z B F H:=⟨R.zf,R.bh,R.rv.fh,R.nb,R.rv.tt⟩
noncomputable def wY(H:Hp)(c:Str)(a:Addr):Hp:=fun b=>if b=a∨b∈Lof H c a then none else H b
theorem Xo(H:Hp)(c:Str)(a:Addr):wY H c a a=none:=if_pos (.inl rfl)
theorem GC{H:Hp}{c:Str}{a l:Addr}(h:l∈Lof H c a):wY H c a l=none:=if_pos (.inr h)
theorem uN{H:Hp}{c:Str}{a b:Addr}(h1:b≠a)(h2:b∉Lof H c a):wY H c a b=H b:=if_neg fun z=>z.elim h1 h2
theorem Zw{H:Hp}{c:Str}{a b:Addr}{o:HO}(h:wY H c a b=some o):H b=some o:=by
 unfold wY at h
 split at h
 ·nomatch h
 ·exact h
theorem jc{H:Hp}{c:Str}{a b:Addr}(h:wY H c a b=none):b=a∨b∈Lof H c a∨H b=none:=by
 unfold wY at h
 split at h
 ·rename_i z;exact z.elim .inl fun z=>.inr (.inl z)
 ·exact .inr (.inr h)
noncomputable def spM(K:Frag)(c:Str)(j n:Nat)(g:Fs→List D→Rs (D×Fs)):Sp:=fun vs H Q E=>vs.length=n+1∧∃a us1 us2 ds1 ds2 fs F,vs=us1 ++ .ref a::us2∧us1.length=j∧WR K F H c fs a∧Same F H∧TbT F H∧Reps K F ds1 us1∧Reps K F ds2 us2∧match g fs (ds1++ds2) with
 | .ok (d,fs')=>∀v F' H',zw1 F (wY H c a) F' H'→WR K F' H' c fs' a→(∀l∈Lof H' c a,l∈Lof H c a∨H l=none)→Rep K F' d v→Q v H'
 |_=>False
noncomputable def spR(K:Frag)(c:Str)(j n:Nat)(g:Fs→List D→Rs D):Sp:=fun vs H Q E=>vs.length=n+1∧∃a us1 us2 ds1 ds2 fs F C dx ws,vs=us1 ++ .ref a::us2∧us1.length=j∧H a=some (.ins C dx ws)∧nsIn K mainGlobals c=some (some (.ref C))∧Flds K F H c fs ws∧Same F H∧TbT F H∧Reps K F ds1 us1∧Reps K F ds2 us2∧match g fs (ds1++ds2) with
 |.ok d=>Ev K F H Q d
 |_=>False
theorem RS.meth{K:Frag}{B Z F H F' H':Hp}{τ:DS}{σ:St}{i n:Nat}{c:Str}{fs fs':Fs}{a:Addr}(R:RS K B Z F τ σ H)(hi:τ[i]?=some (some (.obj n c fs)))(ha:σ[i]?=some (some (.ref a)))(x:zw1 F (wY H c a) F' H')(o:WR K F' H' c fs' a)(nw:∀l∈Lof H' c a,l∈Lof H c a∨H l=none) :
  RS K B Z F' (τ.set i (some (.obj n c fs'))) σ H':=by
 obtain⟨a',q1,C,dx,vs,he,_⟩:=R.rv.ob.at_ i n c fs hi
 rw[ha] at q1;replace q1:=tI_ q1;subst q1
 have hL:Lof H c a=zT H c vs:=Lof.ins he
 refine R.objset hi ha he x.ff x.fh x.tt (fun b u h1 h2 e=>x.hh b u (by rw[uN h1 (by rw[hL];exact h2)];exact e)) (fun b u e=>?_) o fun l hl=>by rw[← hL];exact nw l hl
 rcases x.nw b u e with z|z
 ·exact .inl z
 ·rcases jc z with z|z|z
  ·exact .inr (.inr (.inl z))
  ·exact .inr (.inr (.inr (by rw[← hL];exact z)))
  ·exact .inr (.inl z)
noncomputable def wH(s0:Sl)(j N:Nat)(ds:List D):DS:=(ds.take j).map (fun d=>some (.val d))++some s0::((ds.drop j).map (fun d=>some (.val d))++List.replicate (N-(ds.length+1)) none)
noncomputable def ZC(s0:Sl)(ds1 ds2:List D)(N:Nat):DS:=ds1.map (fun d=>some (.val d))++some s0::(ds2.map (fun d=>some (.val d))++List.replicate (N-(ds1.length+ds2.length+1)) none)
theorem W3{s0:Sl}{j N:Nat}{ds1 ds2:List D}(h:ds1.length=j):wH s0 j N (ds1++ds2)=ZC s0 ds1 ds2 N:=by
 unfold wH ZC
 subst h
 rw[List.take_left,List.drop_left,List.length_append]
theorem Wt{s0:Sl}{N:Nat}{ds1 ds2:List D}{i:Nat}{o:Sl}(h:(ZC s0 ds1 ds2 N)[i]?=some (some o)):(i=ds1.length∧o=s0)∨(∃d,ds1[i]?=some d∧o=.val d)∨∃k d,i=ds1.length+1+k∧ds2[k]?=some d∧o=.val d:=by
 unfold ZC at h
 by_cases h1:i<ds1.length
 ·rw[List.getElem?_append_left (by simpa using h1),List.getElem?_map] at h
  cases e:ds1[i]? with
  |none=>rw[e] at h;cases h
  |some d=>rw[e] at h;cases h;exact .inr (.inl ⟨d,rfl,rfl⟩)
 ·rw[List.getElem?_append_right (by simpa using h1),List.length_map] at h
  cases e:i-ds1.length with
  |zero=>rw[e] at h;simp at h;exact .inl ⟨by lia,h.symm⟩
  |succ k=>
   rw[e,List.getElem?_cons_succ] at h
   by_cases h2:k<ds2.length
   ·rw[List.getElem?_append_left (by simpa using h2),List.getElem?_map] at h
    cases e2:ds2[k]? with
    |none=>rw[e2] at h;cases h
    |some d=>rw[e2] at h;cases h;exact .inr (.inr ⟨k,d,by lia,e2,rfl⟩)
   ·rw[List.getElem?_append_right (by simpa using h2),List.getElem?_replicate] at h
    split at h <;> cases h
theorem W9{K:Frag}{F H B:Hp}{N:List Str}{ds1 ds2:List D}{us1 us2:List V}{a:Addr}{s0:Sl}(hs:Jj (some s0)=true)(fh:Same F H)(tt:TbT F H)(r1:Reps K F ds1 us1)(r2:Reps K F ds2 us2)
  (h1:∀n c fs,s0=.obj n c fs→WR K F H c fs a∧B=wY H c a) (h2:∀c fs,s0=.obr c fs→(∃C dx vs,H a=some (.ins C dx vs)∧nsIn K mainGlobals c=some (some (.ref C))∧Flds K F H c fs vs)) (hb:Hh B H) (hnb:∀b o,B b=some o→H b=some o) (h3:∀c fs,s0=.obr c fs→B=H) :
  RS K B F F (ZC s0 ds1 ds2 N.length) (L2.start N (us1 ++ .ref a::us2)) H:=by
 have hl1:=r1.length
 have hl2:=r2.length
 have s1:∀{i:Nat} {v:V},us1[i]?=some v→(L2.start N (us1 ++ .ref a::us2))[i]?=some (some v):=fun {i v} q=>by
  have hi:i<us1.length:=(List.getElem?_eq_some_iff.mp q).1
  unfold L2.start
  rw[List.getElem?_append_left (by simp;lia),List.getElem?_map,List.getElem?_append_left hi,q];rfl
 have s2:∀{k:Nat} {v:V},us2[k]?=some v→(L2.start N (us1 ++ .ref a::us2))[us1.length+1+k]?=some (some v):=fun {k v} q=>by
  have hi:k<us2.length:=(List.getElem?_eq_some_iff.mp q).1
  unfold L2.start
  rw[List.getElem?_append_left (by simp;lia),List.getElem?_map,List.getElem?_append_right (by lia),show us1.length+1+k-us1.length=k+1 by lia,List.getElem?_cons_succ,q];rfl
 have s0':(L2.start N (us1 ++ .ref a::us2))[ds1.length]?=some (some (.ref a)):=by
  unfold L2.start
  rw[List.getElem?_append_left (by simp;lia),List.getElem?_map,List.getElem?_append_right (by lia),hl1];simp
 have only:∀{i:Nat} {o:Sl},Jj (some o)=true→(ZC s0 ds1 ds2 N.length)[i]?=some (some o)→i=ds1.length∧o=s0:=fun {i o} ho h=>by
  rcases Wt h with e|⟨d,_,e⟩|⟨k,d,_,_,e⟩
  ·exact e
  ·subst e;cases ho
  ·subst e;cases ho
 have onlyS:∀{i:Nat} {c:Str},ObS (ZC s0 ds1 ds2 N.length)[i]? c→i=ds1.length:=fun {i c} h=>by
  rcases h with ⟨n,fs,h⟩|⟨fs,h⟩
  ·exact(only rfl h).1
  ·exact(only rfl h).1
 have noown:∀{i:Nat} {es:List D},(ZC s0 ds1 ds2 N.length)[i]?=some (some (.own es))→False:=fun {i es} h=>by
  rcases Wt h with ⟨_,e⟩|⟨d,_,e⟩|⟨k,d,_,_,e⟩
  ·rw[← e] at hs;cases hs
  ·nomatch e
  ·nomatch e
 refine⟨⟨fh,?_,fun i d h=>?_,fun i es h=>(noown h).elim,fun i j es es' b _ h1=>(noown h1).elim,tt,⟨fun i n c fs h=>?_,fun i j n c c' fs b hij g1 g2 _ _=>?_,fun i c fs h=>?_,fun i j n c c' fs b b' l hij g1 g2=>?_,fun i j c ds b l _ g2=>(noown g2).elim⟩⟩,hb,Same.refl F,fun a o e=>.inl e,fun i es b g1=>(noown g1).elim,fun i n c fs b g1 g2=>?_,fun a0 dx b1 b2 i n c fs g1=>?_,fun i c fs b g1 g2=>?_⟩
 ·simp[ZC,L2.start,hl1,hl2];lia
 ·rcases Wt h with ⟨_,e⟩|⟨d',e1,e⟩|⟨k,d',rfl,e1,e⟩
  ·rw[← e] at hs;cases hs
  ·replace e:=FD.Sl.val.inj e;subst e
   refine X11 (r1.get e1) fun v q1 q2=>?_
   exact Y11 v (s1 q1) q2
  ·replace e:=FD.Sl.val.inj e;subst e
   refine X11 (r2.get e1) fun v q1 q2=>?_
   exact Y11 v (by rw[hl1];exact s2 q1) q2
 ·obtain⟨rfl,e⟩:=only rfl h
  exact Y11 a s0' ((h1 n c fs e.symm).1)
 ·exact hij ((only rfl g1).1.trans (onlyS g2).symm)
 ·obtain⟨rfl,e⟩:=only rfl h
  obtain⟨C,dx,vs,q1,q2,q3⟩:=h2 c fs e.symm
  exact⟨a,C,dx,vs,s0',q1,q2,q3⟩
 ·exact absurd ((only rfl g1).1.trans (onlyS g2).symm) hij
 ·obtain⟨rfl,e⟩:=only rfl g1
  rw[s0'] at g2;replace g2:=tI_ g2;subst g2
  rw[(h1 n c fs e.symm).2]
  exact⟨Xo _ _ _,fun l hl=>GC hl⟩
 ·obtain⟨rfl,e⟩:=only rfl g1
  obtain⟨p1,p2⟩:=h1 (n+1) c fs e.symm
  obtain⟨C,dx',vs,q2⟩:=tt.2 dx a0 (hnb _ _ b1)
  by_cases z:a0=a
  ·rw[z];exact s0'
  ·have:a0∉Lof H c a:=fun y=>by
    refine X34 p1 fun C2 dx2 vs2 o1 _ _ o4 _=>?_
    rw[Lof.ins o1] at y
    refine X01 (o4.own y) fun _ r74_=>?_;refine X10 r74_ fun ws q=>?_
    rw[q2] at q;nomatch q
   rw[p2,uN z this,q2] at b2;nomatch b2
 ·obtain⟨rfl,e⟩:=only rfl g1
  rw[s0'] at g2;replace g2:=tI_ g2;subst g2
  obtain⟨C,dx,vs,q1,q2,q3⟩:=h2 c fs e.symm
  rw[h3 c fs e.symm]
  exact⟨C,dx,vs,q1,fun l hl=>(q3.own hl).2⟩
noncomputable def flM(j:Nat)(c:Str):Fl→Rs (D×Fs)
 |.ro d τ=>(v0 τ j c).bind fun p=>if p.1=1 then .ok (d,p.2) else .no
 |.nx τ=>(v0 τ j c).bind fun p=>if p.1=1 then .ok (.non,p.2) else .no
 |_=>.no
noncomputable def ZO(N j:Nat)(c:Str)(fb:FS)(fs:Fs)(ds:List D):Rs (D×Fs):=flM j c (fb (wH (.obj 1 c fs) j N ds))
noncomputable def ZN(N j:Nat)(c:Str)(fb:FS)(fs:Fs)(ds:List D):Rs D:=Y1 (fb (wH (.obr c fs) j N ds))
theorem Gi{τ:DS}{i n:Nat}{c:Str}{fs:Fs}(h:v0 τ i c=.ok (n,fs)):τ[i]?=some (some (.obj n c fs)):=by
 unfold v0 at h
 split at h
 ·rename_i m c' gs e
  by_cases z:c'=c
  ·subst z;rw[if_pos rfl] at h;cases h;exact e
  ·rw[if_neg z] at h;nomatch h
 ·nomatch h
section
variable{P:Program}{w:World}{K:Frag}{mg:Str→Option Value}{base:Heap}
theorem We(H:Hp)(c:Str)(a:Addr):Hh (wY H c a) H:=fun b o e=>.of (Zw e)
theorem fnM{x qual c:Str}{st:Stmt}{f:Addr}{fd:FuncData}{N ps:List Str}{k n j:Nat}{fb:FS}(F:Fun K x qual st f fd)(S:zD N ps (zh st))(hn:ps.length=n+1)
  (hbody:∀(cdv:Value) (A:Around) (outer:List Env) (s:Shared) (H:Hp) (E:XK),Room k (A.deeper (envOfC qual (zh st) s.heap.objs.size f cdv)) →
   uc (jJ CX0 P w K mg base N qual (zh st) f cdv A outer s H E).nox (zx st) fb):FnOk P w K mg base CX0 (k+1) f fd ps (spM K c j n (ZO N.length j c fb)):=by
 refine F.ok S (fun vs H Q E h=>by rw[hn];exact h.1) fun cdv A outer s H vs Q E hr h=>⟨_,hbody cdv A outer s H E hr,?_⟩
 obtain⟨hl,a,us1,us2,ds1,ds2,fs,Fz,rfl,hj,ob,fh,tt,r1,r2,h⟩:=h
 have hd1:ds1.length=j:=r1.length.trans hj
 have st:wH (.obj 1 c fs) j N.length (ds1++ds2)=ZC (.obj 1 c fs) ds1 ds2 N.length:=W3 hd1
 refine Y41 (wY H c a) Fz Fz (ZC (.obj 1 c fs) ds1 ds2 N.length) (W9 rfl fh tt r1 r2 (fun n' c' fs' e=>by cases e;exact⟨ob,rfl⟩) (fun c' fs' e=>by nomatch e) (We H c a) (fun b o e=>Zw e) (fun c' fs' e=>by nomatch e)) ?_
 refine X35 ob fun C dx ws o1 o2 o3 o4 o5 o6=>?_
 have hdx:wY H c a dx=some (.own a):=by
  have n1:dx≠a:=fun z=>by subst z;rw[o1] at o5;nomatch o5
  have n2:dx∉Lof H c a:=fun z=>by
   rw[Lof.ins o1] at z
   refine X01 (o4.own z) fun _ r75_=>?_;refine X10 r75_ fun ws' q=>?_
   rw[o5] at q;nomatch q
  rw[uN n1 n2];exact o5
 have fin:∀{τ:DS} {σ:St} {F' H':Hp} {fs':Fs},v0 τ j c=.ok (1,fs')→RS K (wY H c a) Fz F' τ σ H'→WR K F' H' c fs' a∧∀l∈Lof H' c a,l∈Lof H c a∨H l=none:=fun {τ σ F' H' fs'} q RR=>by
  have z:=Gi q
  refine X11 (RR.rv.ob.at_ j 1 c fs' z) fun a' p1 p2=>?_
  have:=RR.sf a dx hdx (Xo _ _ _) j 0 c fs' z
  rw[p1] at this;replace this:=tJ_ this;subst this
  refine⟨p2,fun l hl=>?_⟩
  rcases jc ((RR.oo j 1 c fs' a z p1).2 l hl) with y|y|y
  ·subst y
   refine X34 p2 fun C' dx' vs' g1 _ _ g4 _=>?_
   rw[Lof.ins g1] at hl
   refine X01 (g4.own hl) fun _ r76_=>?_;refine X10 r76_ fun ws' q=>?_
   rw[g1] at q;nomatch q
  ·exact .inl y
  ·exact .inr y
 unfold ZO at h
 rw[st] at h
 cases q:fb (ZC (.obj 1 c fs) ds1 ds2 N.length) with
 |nx τ=>
  rw[q] at h
  cases z:v0 τ j c with
  |ok p=>
   obtain⟨m,fs'⟩:=p
   simp only[flM,z,Rs.bind] at h
   by_cases hm:m=1
   ·subst hm
    rw[if_pos rfl] at h
    exact fun σ F' H' ff RR=>h .non F' H' RR.outO (fin z RR).1 (fin z RR).2 (by simp only[Rep])
   ·rw[if_neg hm] at h;exact h.elim
  |ex c=>simp only[flM,z,Rs.bind] at h
  |no=>simp only[flM,z,Rs.bind] at h
 |ro d τ=>
  rw[q] at h
  cases z:v0 τ j c with
  |ok p=>
   obtain⟨m,fs'⟩:=p
   simp only[flM,z,Rs.bind] at h
   by_cases hm:m=1
   ·subst hm
    rw[if_pos rfl] at h
    exact fun v σ F' H' ff RR rr=>h v F' H' RR.outO (fin z RR).1 (fin z RR).2 rr
   ·rw[if_neg hm] at h;exact h.elim
  |ex c=>simp only[flM,z,Rs.bind] at h
  |no=>simp only[flM,z,Rs.bind] at h
 |rb d τ=>rw[q] at h;exact h.elim
 |rt d=>rw[q] at h;exact h.elim
 |bk τ=>rw[q] at h;exact h.elim
 |ct τ=>rw[q] at h;exact h.elim
 |ex c=>rw[q] at h;exact h.elim
 |no=>rw[q] at h;exact h.elim
 |rs c τ=>rw[q] at h;exact h.elim
theorem fnR{x qual c:Str}{st:Stmt}{f:Addr}{fd:FuncData}{N ps:List Str}{k n j:Nat}{fb:FS}(F:Fun K x qual st f fd)(S:zD N ps (zh st))(hn:ps.length=n+1)
  (hbody:∀(cdv:Value) (A:Around) (outer:List Env) (s:Shared) (H:Hp) (E:XK),Room k (A.deeper (envOfC qual (zh st) s.heap.objs.size f cdv)) →
   uc (jJ CX0 P w K mg base N qual (zh st) f cdv A outer s H E).nox (zx st) fb):FnOk P w K mg base CX0 (k+1) f fd ps (spR K c j n (ZN N.length j c fb)):=by
 refine F.ok S (fun vs H Q E h=>by rw[hn];exact h.1) fun cdv A outer s H vs Q E hr h=>⟨_,hbody cdv A outer s H E hr,?_⟩
 obtain⟨hl,a,us1,us2,ds1,ds2,fs,Fz,C,dx,ws,rfl,hj,o1,o2,o3,fh,tt,r1,r2,h⟩:=h
 have hd1:ds1.length=j:=r1.length.trans hj
 have st:wH (.obr c fs) j N.length (ds1++ds2)=ZC (.obr c fs) ds1 ds2 N.length:=W3 hd1
 refine Y41 H Fz Fz (ZC (.obr c fs) ds1 ds2 N.length) (W9 rfl fh tt r1 r2 (fun n' c' fs' e=>by nomatch e) (fun c' fs' e=>by cases e;exact⟨C,dx,ws,o1,o2,o3⟩) (Hh.refl H) (fun _ _ e=>e) (fun _ _ _=>rfl)) ?_
 unfold ZN at h
 rw[st] at h
 cases q:fb (ZC (.obr c fs) ds1 ds2 N.length) with
 |nx τ=>rw[q] at h;exact fun σ F' H' ff RR=>h .non F' H' RR.out (by simp only[Rep])
 |rt d=>rw[q] at h;exact fun v F' H' x rr=>h v F' H' x rr
 |ro d τ=>rw[q] at h;exact fun v σ F' H' ff RR rr=>h v F' H' RR.out rr
 |rb d τ=>rw[q] at h;exact h.elim
 |bk τ=>rw[q] at h;exact h.elim
 |ct τ=>rw[q] at h;exact h.elim
 |ex c=>rw[q] at h;exact h.elim
 |no=>rw[q] at h;exact h.elim
 |rs c τ=>rw[q] at h;exact h.elim
end
noncomputable abbrev FOb:=DS→Rs (D×DS)
noncomputable abbrev Ww:=DS→Rs (Bool×DS)
noncomputable def tOb(X:Cx)(f:FOb):TE:=fun σ H Q=>∃B Z F τ,RS X.K B Z F τ σ H∧Ok X (f τ) fun p=>∀v F' H',Same F F'→RS X.K B Z F' p.2 σ H'→Rep X.K F' p.1 v→Q v H'
noncomputable def tObT(X:Cx)(f:Ww):TT:=fun σ H Q=>∃B Z F τ,RS X.K B Z F τ σ H∧Ok X (f τ) fun p=>∀F' H',Same F F'→RS X.K B Z F' p.2 σ H'→Q p.1 H'
noncomputable def M2(X:Cx)(e:Expr)(f:FOb):Prop:=PE X e (tOb X f)
noncomputable def VE(X:Cx)(e:Expr)(f:Ww):Prop:=PT X e (tObT X f)
noncomputable def GV(X:Cx)(e:Expr)(f:Ww):Prop:=PW X e (tObT X f)
noncomputable def MetM(P:Program)(w:World)(K:Frag)(mg:Str→Option Value)(base:Heap)(c m:Str)(k n:Nat)(ps:List Str)(g:Fs→List D→Rs (D×Fs)):Prop:=
 ∃C f fd,nsIn K mainGlobals c=some (some (.ref C))∧Cls K C∧ZE K C m f∧FnOk P w K mg base CX0 k f fd ps (spM K c 0 n g)∧Binds K fd ps []
noncomputable def MetR(P:Program)(w:World)(K:Frag)(mg:Str→Option Value)(base:Heap)(c m:Str)(k n:Nat)(ps:List Str)(g:Fs→List D→Rs D):Prop:=
 ∃C f fd,nsIn K mainGlobals c=some (some (.ref C))∧Cls K C∧ZE K C m f∧FnOk P w K mg base CX0 k f fd ps (spR K c 0 n g)∧Binds K fd ps []
noncomputable def ClsM(P:Program)(w:World)(K:Frag)(mg:Str→Option Value)(base:Heap)(c:Str)(k n:Nat)(ps:List Str)(g:Fs→List D→Rs (D×Fs)):Prop:=
 ∃C f fd,nsIn K mainGlobals c=some (some (.ref C))∧mg c=some (.ref C)∧Mk K C f∧FnOk P w K mg base CX0 k f fd ps (spM K c 0 n g)∧Binds K fd ps []
noncomputable def DefR(P:Program)(w:World)(K:Frag)(mg:Str→Option Value)(base:Heap)(x c:Str)(k j n:Nat)(ps:List Str)(g:Fs→List D→Rs D):Prop:=
 ∃f fd,FnOk P w K mg base CX0 k f fd ps (spR K c j n g)∧Binds K fd ps []∧keepIn K (.ref f)=true∧mg x=some (.ref f)
section
variable{X:Cx}{pos:Pos}{e a b:Expr}{es rest:List Expr}{fe fb:FE}{fs:FA}{c m x:Str}{i k n:Nat}{ps:List Str}{fo:FOb}{ga gb:Ww}
noncomputable def yL(i:Nat)(c m:Str)(g:Fs→List D→Rs D)(fs:FA):FE:=fun τ=>(uz τ i c).bind fun o=>if (xX m o).isNone=true then (fs τ).bind fun ds=>WL (g o ds) else .no
theorem Ja{C:Addr}{g:Fs→List D→Rs D}(hC:nsIn X.K mainGlobals c=some (some (.ref C)))(hfs:∀τ ds,fs τ=.ok ds→ds.length=n){σ:St}{H:Hp}{Q:VK}(h:tE X (yL i c m g fs) σ H Q):QL C m (spR X.K c 0 n g) [] E0 (xf i) (tAs X fs) σ H Q:=by
 obtain⟨F,τ,R,h⟩:=h
 obtain⟨o,a,C',dx,vs,h1,h2,h3,h4,h5⟩:=Z1 R h.bind
 obtain rfl:C=C':=by rw[hC] at h3;replace h3:=PySem.Value.ref.inj (Option.some.inj (Option.some.inj h3));subst h3;rfl
 have l:=h4.look (f:=m)
 cases z:xX m o with
 |some d=>rw[z,if_neg (by simp)] at h5;exact h5.elim
 |none=>
  rw[z] at l h5
  rw[if_pos (by rfl)] at h5
  refine⟨_,h1,a,dx,vs,rfl,h2,l,F,τ,R,?_⟩
  have hb:=h5.bind
  cases q:fs τ with
  |no=>rw[q] at hb;exact hb
  |ex c=>rw[q] at hb;exact hb
  |ok ds=>
   rw[q] at hb
   intro us F1 H1 x r
   rw[List.append_nil]
   refine⟨by rw[List.length_cons,← r.length,hfs τ ds q],a,[],us,[],ds,o,F1,C,dx,vs,rfl,rfl,x.hh _ _ h2,h3,h4.keep x.ff fun l ws _ e1 e2=>⟨x.hh _ _ e1,?_⟩,x.fh,x.tt R.tt,Reps.nil,r,?_⟩
   ·cases y:F1 l with
    |none=>rfl
    |some u=>
     rcases x.nw l u y with z|z
     ·rw[e2] at z;nomatch z
     ·rw[e1] at z;nomatch z
   show match g o ds with
    |.ok d=>Ev X.K F1 H1 Q d
    |_=>False
   have hb:Ok X (WL (g o ds)) (Ev X.K F H Q):=hb
   cases z:g o ds with
   |ok d=>rw[z] at hb;exact Ev.ext hb x
   |ex c=>rw[z] at hb;exact hb.elim
   |no=>rw[z] at hb;exact hb.elim
theorem Vc{g:Fs→List D→Rs D}{p1 apos:Pos}{pl:Sem Bool}(M:MetR X.prog X.w X.K X.mg X.base c m k n ps g)(hr:Room k X.A)(hx:PE X (.Name x p1) (xf i))(ha:PDA X (e::es) fs)(hfs:∀τ ds,fs τ=.ok ds→ds.length=n)
  (hst:starEach (e::es) X.env=(false,eval e X.env)::starEach es X.env:=by rfl) (hpl:(backTo pos (starEach es X.env)).any (·.1)=false:=by rfl)
  (ht:eval (.Call (.Attribute (.Name x p1) m apos) (e::es) [] pos) X.env=(do
   let ov ← eval (.Name x p1) X.env
   standAt apos.atName
   let (f,first) ← holding [ov] (getMethod ov m pl)
   callWith pos f first (backTo pos (starEach (e::es) X.env)) (backToKw pos (keywordEach [] X.env))):=by rfl) :
  PDE X (.Call (.Attribute (.Name x p1) m apos) (e::es) [] pos) (yL i c m g fs):=by
 refine X34 M fun C f fd hC cl hm F hb=>?_
 exact PE.imp (Q4 hx cl hm F hr hb .nil (E:=E0) j9 ha hst hpl ht) fun σ H Q h=>Ja hC hfs h
theorem Lm{σ:St}{H:Hp}{Q:List V→Hp→Prop}(h:tAs X zi σ H Q):JN σ H Q:=by
 obtain⟨F,τ,R,h⟩:=h
 exact h [] F H (Ext.refl R.fh) Reps.nil
theorem wq{g:Fs→List D→Rs D}{p1 apos:Pos}{pl:Sem Bool}(M:MetR X.prog X.w X.K X.mg X.base c m k 0 ps g)(hr:Room k X.A)(hx:PE X (.Name x p1) (xf i))
  (ht:eval (.Call (.Attribute (.Name x p1) m apos) [] [] pos) X.env=(do
   let ov ← eval (.Name x p1) X.env
   standAt apos.atName
   let (f,first) ← holding [ov] (getMethod ov m pl)
   callWith pos f first (backTo pos (starEach [] X.env)) (backToKw pos (keywordEach [] X.env))):=by rfl) :
  PDE X (.Call (.Attribute (.Name x p1) m apos) [] [] pos) (yL i c m g zi):=by
 refine X34 M fun C f fd hC cl hm F hb=>?_
 refine PE.imp (UV hx cl hm F hr hb .nil (E:=E0) j9 ht) fun σ H Q h=>?_
 obtain⟨v,h1,a,dx,vs,h2,h3,h4,h5⟩:=Ja (n:=0) hC (fun τ ds h=>by cases h;rfl) h
 exact⟨v,h1,a,dx,vs,h2,h3,h4,Lm h5⟩
noncomputable def wu(i:Nat)(c m:Str)(g:Fs→List D→Rs (D×Fs))(fs:FA):FOb:=fun τ=>(v0 τ i c).bind fun p=>if (xX m p.2).isNone=true then (fs τ).bind fun ds=>(match g p.2 ds with
 | .ok (d,o')=>.ok (d,τ.set i (some (.obj p.1 c o')))
 |_=>.no) else .no
theorem Gk{C:Addr}{g:Fs→List D→Rs (D×Fs)}(hC:nsIn X.K mainGlobals c=some (some (.ref C)))(hfs:∀τ ds,fs τ=.ok ds→ds.length=n){σ:St}{H:Hp}{Q:VK}(h:tOb X (wu i c m g fs) σ H Q):QL C m (spM X.K c 0 n g) [] E0 (xf i) (tAs X fs) σ H Q:=by
 obtain⟨B,Z,F,τ,R,h⟩:=h
 refine X21 (um (X:=X) h.bind) fun t o h1 h5=>?_
 dsimp only at h5
 refine X11 (R.rv.ob.at_ i t c o h1) fun a q1 r78_=>?_;refine X34 r78_ fun C' dx vs q2 q3 q4 q5 q6=>?_
 obtain rfl:C=C':=by rw[hC] at q4;replace q4:=PySem.Value.ref.inj (Option.some.inj (Option.some.inj q4));subst q4;rfl
 have l:=q5.look (f:=m)
 cases z:xX m o with
 |some d=>rw[z,if_neg (by simp)] at h5;exact h5.elim
 |none=>
  rw[z] at l h5
  rw[if_pos (by rfl)] at h5
  refine⟨_,q1,a,dx,vs,rfl,q2,l,F,τ,R.rv,?_⟩
  have hb:=h5.bind
  cases q:fs τ with
  |no=>rw[q] at hb;exact hb
  |ex c=>rw[q] at hb;exact hb
  |ok ds=>
   rw[q] at hb
   intro us F1 H1 x r
   have R1:=R.ext x
   refine X11 (R1.rv.ob.at_ i t c o h1) fun a' p1 ob=>?_
   obtain rfl:a'=a:=by rw[q1] at p1;replace p1:=tI_ p1;subst p1;rfl
   rw[List.append_nil]
   refine⟨by rw[List.length_cons,← r.length,hfs τ ds q],a',[],us,[],ds,o,F1,rfl,rfl,ob,x.fh,R1.rv.tt,Reps.nil,r,?_⟩
   rw[List.nil_append]
   dsimp only [Ok] at hb
   cases z:g o ds with
   |ok p=>
    obtain⟨d,o'⟩:=p
    rw[z] at hb
    exact fun v F' H' xo ob' nw rep=>hb v F' H' (x.ff.trans xo.ff) (R1.meth h1 q1 xo ob' nw) rep
   |ex c=>rw[z] at hb;exact hb.elim
   |no=>rw[z] at hb;exact hb.elim
theorem jx{g:Fs→List D→Rs (D×Fs)}{p1 apos:Pos}{pl:Sem Bool}(M:MetM X.prog X.w X.K X.mg X.base c m k n ps g)(hr:Room k X.A)(hx:PE X (.Name x p1) (xf i))(ha:PDA X (e::es) fs)(hfs:∀τ ds,fs τ=.ok ds→ds.length=n)
  (hst:starEach (e::es) X.env=(false,eval e X.env)::starEach es X.env:=by rfl) (hpl:(backTo pos (starEach es X.env)).any (·.1)=false:=by rfl)
  (ht:eval (.Call (.Attribute (.Name x p1) m apos) (e::es) [] pos) X.env=(do
   let ov ← eval (.Name x p1) X.env
   standAt apos.atName
   let (f,first) ← holding [ov] (getMethod ov m pl)
   callWith pos f first (backTo pos (starEach (e::es) X.env)) (backToKw pos (keywordEach [] X.env))):=by rfl) :
  M2 X (.Call (.Attribute (.Name x p1) m apos) (e::es) [] pos) (wu i c m g fs):=by
 refine X34 M fun C f fd hC cl hm F hb=>?_
 exact PE.imp (Q4 hx cl hm F hr hb .nil (E:=E0) j9 ha hst hpl ht) fun σ H Q h=>Gk hC hfs h
theorem Mh{g:Fs→List D→Rs (D×Fs)}{p1 apos:Pos}{pl:Sem Bool}(M:MetM X.prog X.w X.K X.mg X.base c m k 0 ps g)(hr:Room k X.A)(hx:PE X (.Name x p1) (xf i))
  (ht:eval (.Call (.Attribute (.Name x p1) m apos) [] [] pos) X.env=(do
   let ov ← eval (.Name x p1) X.env
   standAt apos.atName
   let (f,first) ← holding [ov] (getMethod ov m pl)
   callWith pos f first (backTo pos (starEach [] X.env)) (backToKw pos (keywordEach [] X.env))):=by rfl) :
  M2 X (.Call (.Attribute (.Name x p1) m apos) [] [] pos) (wu i c m g zi):=by
 refine X34 M fun C f fd hC cl hm F hb=>?_
 refine PE.imp (UV hx cl hm F hr hb .nil (E:=E0) j9 ht) fun σ H Q h=>?_
 obtain⟨v,h1,a,dx,vs,h2,h3,h4,h5⟩:=Gk (n:=0) hC (fun τ ds h=>by cases h;rfl) h
 exact⟨v,h1,a,dx,vs,h2,h3,h4,Lm h5⟩
noncomputable def J8(gt:FT):Ww:=fun τ=>(gt τ).bind fun b=>.ok (b,τ)
theorem Q8{gt:FT}(h:PDT X e gt):VE X e (J8 gt):=PT.imp h fun σ H Q z_=>by refine X41 z_ fun B Z F τ R q=>?_;exact tTs.of R.rv q.bind fun b F1 H1 g x _=>g F1 H1 x.ff (R.ext x)
noncomputable def oOp(op:D→D→Rs D)(fo:FOb)(fb:FE):FOb:=fun τ=>(fo τ).bind fun p=>(fb p.2).bind fun y=>(op p.1 y).bind fun z=>.ok (z,p.2)
theorem zq8{r:R2}{op:D→D→Rs D}(hl:∀F H x y dx dy Q,Same F H→Rep X.K F dx x→Rep X.K F dy y→Ok X (op dx dy) (Ev X.K F H Q)→r x y H Q)
  (σ:St) (H:Hp) (Q:VK) (h:tOb X (oOp op fo fb) σ H Q):tOp r (tOb X fo) (tE X fb) σ H Q:=by
 obtain⟨B,Z,F,τ,R,h⟩:=h
 refine Y41 B Z F τ R (h.bind.imp fun p g v F1 H1 f1 R1 r1=>?_)
 refine tE.at R1 g.bind fun y w F2 H2 g2 x2 R2 r2=>?_
 exact hl F2 H2 v w p.1 y Q R2.rv.fh (r1.mono x2.ff) r2 (g2.bind.imp fun z gz u F3 H3 x3 r3=>gz u F3 H3 (f1.trans (x2.ff.trans x3.ff)) (R2.ext x3) r3)
noncomputable def oB(f:FOb):Ww:=fun τ=>(f τ).bind fun p=>match p.1 with
 |.bl b=>.ok (b,p.2)
 |_=>.no
theorem U1{o:CmpOp}{op:D→D→Rs D}(ho:OpD X (compareOp o) op)(ha:M2 X a fo)(hb:PDE X b fb)(hm:behindInMarks o b=false):VE X (.Compare a [o] [b] pos) (oB (oOp op fo fb)):=by
 refine X11 ho fun r h1 h2=>?_
 refine(VV h1 ha hb hm).imp fun σ H Q h=>?_
 obtain⟨B,Z,F,τ,R,h⟩:=h
 refine zq8 h2 σ H _ ⟨B,Z,F,τ,R,h.bind.imp fun p g v F1 H1 f1 R1 r1=>?_⟩
 obtain⟨d,τ'⟩:=p
 cases d with
 |bl k=>simp only[Rep] at r1;exact Y11 k r1 (g F1 H1 f1 R1)
 |_=>exact g.elim
noncomputable def Qc(ga gb:Ww):Ww:=fun τ=>(ga τ).bind fun p=>if p.1=true then .ok (true,p.2) else gb p.2
theorem U0(ha:VE X a ga):GV X (.BoolOp .Or [a] pos) ga:=Tx ha
theorem Q7(ha:VE X a ga)(hb:GV X (.BoolOp .Or (b::rest) pos) gb):GV X (.BoolOp .Or (a::b::rest) pos) (Qc ga gb):=
 PW.imp (zl5 ha hb) fun σ H Q ⟨B,Z,F,τ,R,h⟩=>⟨B,Z,F,τ,R,h.bind.imp fun p g F1 H1 f1 R1=>by
  obtain⟨k,τ'⟩:=p
  cases k with
  |false=>rw[if_neg (by simp)] at g ⊢;exact Y41 B Z F1 τ' R1 (g.imp fun p e F' H' f'=>e F' H' (f1.trans f'))
  |true=>rw[if_pos rfl] at g ⊢;exact g F1 H1 f1 R1⟩
theorem TX(h:GV X e ga):VE X e ga:=PW.pt h
noncomputable def Ma(gc:Ww)(f g:FS):FS:=fun τ=>Fl.of (gc τ) fun p=>if p.1=true then f p.2 else g p.2
theorem Q6{s1 s2:List Stmt}{f g:FS}(hc:VE X e ga)(h1:uc X s1 f)(h2:uc X s2 g):PDS X (.If e s1 s2 pos) (Ma ga f g):=
 PS.imp (zl6 hc h1 h2) fun E σ H ⟨B,Z,F,τ,R,h⟩=>⟨B,Z,F,τ,R,h.of.imp fun p q F1 H1 f1 R1=>by
  obtain⟨k,τ'⟩:=p
  cases k with
  |true=>rw[if_pos rfl] at q ⊢;exact Y41 B Z F1 τ' R1 (q.same f1)
  |false=>rw[if_neg (by simp)] at q ⊢;exact⟨B,Z,F1,τ',R1,q.same f1⟩⟩
noncomputable def vG(fo:FOb):FS:=fun τ=>Fl.of (fo τ) fun p=>.nx p.2
theorem jV(he:M2 X e fo)(hs:swapsWith e none pos.line X.env=pure false:=by rfl):PDS X (.Expr e pos) (vG fo):=
 PS.imp (jT he hs) fun E σ H z_=>by refine X41 z_ fun B Z F τ R h=>?_;exact Y41 B Z F τ R (h.of.imp fun p q v F1 H1 f1 R1 r=>q σ F1 H1 f1 R1)
noncomputable def ZL(fe:FE):FS:=fun τ=>Fl.of (fe τ) fun d=>.ro d τ
theorem XM(he:PDE X e fe):PDS X (.Return (some e) pos) (ZL fe):=
 PS.imp (VX he) fun E σ H z_=>by refine X41 z_ fun B Z F τ R h=>?_;exact tE.at R h.of fun d v F1 H1 g x R1 r=>g v σ F1 H1 x.ff R1 r
end
section
variable{X:Cx}{pos:Pos}{e a b:Expr}{es rest:List Expr}{fe fb:FE}{fs f1 f2:FA}{c m x y:Str}{i k n j:Nat}{ps:List Str}{fo:FOb}
noncomputable def tAm(X:Cx)(i:Nat)(f1 f2:FA):TA:=fun σ H Q=>∃F τ v,RV X.K F τ σ H∧σ[i]?=some (some v)∧Ok X (f1 τ) fun ds1=>Ok X (f2 τ) fun ds2=>∀us1 us2 F' H',Ext F H F' H'→Reps X.K F' ds1 us1→Reps X.K F' ds2 us2→Q (us1++v::us2) H'
noncomputable def PDM(X:Cx)(es:List Expr)(i:Nat)(f1 f2:FA):Prop:=PA X es (tAm X i f1 f2)
theorem ZU{p1:Pos}(hx:PE X (.Name x p1) (xf i))(hr:PDA X es fs)(hs:starEach (.Name x p1::es) X.env=(false,eval (.Name x p1) X.env)::starEach es X.env:=by rfl):PDM X (.Name x p1::es) i zi fs:=
 PA.imp (xD hx hr hs) fun σ H Q z_=>by
  obtain⟨F,τ,v,R,hv,h⟩:=z_
  refine⟨v,hv,F,τ,R,?_⟩
  have h:Ok X (fs τ) fun ds2=>∀us1 us2 F' H',Ext F H F' H'→Reps X.K F' [] us1→Reps X.K F' ds2 us2→Q (us1++v::us2) H':=h
  exact h.imp fun ds2 g us F' H' x r=>g [] us F' H' x Reps.nil r
noncomputable def uS(i:Nat)(c:Str)(g:Fs→List D→Rs D)(f1 f2:FA):FE:=fun τ=>(uz τ i c).bind fun o=>(f1 τ).bind fun ds1=>(f2 τ).bind fun ds2=>WL (g o (ds1++ds2))
theorem ZW{g:Fs→List D→Rs D}{p:Pos}(D:DefR X.prog X.w X.K X.mg X.base y c k j n ps g)(hr:Room k X.A)(ha:PDM X (e::es) i f1 f2)(hl1:∀τ ds,f1 τ=.ok ds→ds.length=j)(hl2:∀τ ds,f2 τ=.ok ds→j+ds.length=n)(hg:Gl X y:=by rfl)(hdb:(y==("__debug__" : Str))=false:=by decide)
  (he:starEach (e::es) X.env=(false,eval e X.env)::starEach es X.env:=by rfl) (hpl:(backTo pos (starEach es X.env)).any (·.1)=false:=by rfl):PDE X (.Call (.Name y p) (e::es) [] pos) (uS i c g f1 f2):=by
 refine X23 D fun f fd F hb hk hm=>?_
 refine PE.imp (ZQ F hr hg hm hk hb .nil (E:=E0) j9 ha hdb he hpl) fun σ H Q z_=>?_
 refine X21 z_ fun Fz τ R h=>?_
 obtain⟨o,a,C,dx,vs,h1,h2,h3,h4,h5⟩:=Z1 R (Ok.bind h)
 refine⟨Fz,τ,.ref a,R,h1,?_⟩
 have hb:=Ok.bind h5
 cases e1:f1 τ with
 |no=>rw[e1] at hb;exact hb
 |ex c=>rw[e1] at hb;exact hb
 |ok ds1=>
  rw[e1] at hb
  have hb2:Ok X ((f2 τ).bind fun ds2=>WL (g o (ds1++ds2))) (Ev X.K Fz H Q):=hb
  have hb:=Ok.bind hb2
  show Ok X (f2 τ) _
  cases e2:f2 τ with
  |no=>rw[e2] at hb;exact hb
  |ex c=>rw[e2] at hb;exact hb
  |ok ds2=>
   rw[e2] at hb
   intro us1 us2 F1 H1 x r1 r2
   rw[List.append_nil]
   have l1:=hl1 τ ds1 e1
   have l2:=hl2 τ ds2 e2
   refine⟨by rw[List.length_append,List.length_cons,← r1.length,← r2.length];lia,a,us1,us2,ds1,ds2,o,F1,C,dx,vs,rfl,by rw[← r1.length];exact l1,x.hh _ _ h2,h3,h4.keep x.ff fun l ws _ e3 e4=>⟨x.hh _ _ e3,?_⟩,x.fh,x.tt R.tt,r1,r2,?_⟩
   ·cases w:F1 l with
    |none=>rfl
    |some u=>
     rcases x.nw l u w with z|z
     ·rw[e4] at z;nomatch z
     ·rw[e3] at z;nomatch z
   ·have hb:Ok X (WL (g o (ds1++ds2))) (Ev X.K Fz H Q):=hb
    cases z:g o (ds1++ds2) with
    |ok d=>rw[z] at hb;exact Ev.ext hb x
    |ex c=>rw[z] at hb;exact hb.elim
    |no=>rw[z] at hb;exact hb.elim
end
theorem RS.setObj{K:Frag}{B Z F1 F H1 H:Hp}{τ:DS}{σ:St}{i:Nat}{c:Str}{fs:Fs}{a:Addr}(R1:RS K B Z F1 τ σ H1)(ex:Ext F1 H1 F H)(ob:WR K F H c fs a)(ha:H1 a=none)(hf:∀l∈Lof H c a,H1 l=none) :
  RS K B Z F (τ.set i (some (.obj 0 c fs))) (σ.set i (some (.ref a))) H:=by
 have R:=R1.ext ex
 have len:=R.rv.len
 have lt:∀{j:Nat} {s:Option Sl},(τ.set i (some (.obj 0 c fs)))[j]?=some s→(i=j∧s=some (.obj 0 c fs)∧(σ.set i (some (.ref a)))[j]?=some (some (.ref a)))∨(i≠j∧τ[j]?=some s∧(σ.set i (some (.ref a)))[j]?=σ[j]?):=fun {j s} h=>by
  by_cases e:i=j
  ·subst e
   have hl:i<τ.length:=by
    rcases Nat.lt_or_ge i τ.length with z|z
    ·exact z
    ·rw[List.getElem?_eq_none_iff.mpr (by simpa using z)] at h;nomatch h
   rw[List.getElem?_set_self hl] at h;replace h:=sI_ h;subst h
   exact .inl ⟨rfl,rfl,List.getElem?_set_self (by rw[← len];exact hl)⟩
  ·rw[List.getElem?_set_ne e] at h
   exact .inr ⟨e,h,List.getElem?_set_ne e⟩
 have ltS:∀{j:Nat} {c':Str},ObS (τ.set i (some (.obj 0 c fs)))[j]? c'→(i=j∧c'=c∧(σ.set i (some (.ref a)))[j]?=some (some (.ref a)))∨(i≠j∧ObS τ[j]? c'∧(σ.set i (some (.ref a)))[j]?=σ[j]?):=fun {j c'} h=>by
  rcases h with ⟨m,gs,h⟩|⟨gs,h⟩
  ·rcases lt h with ⟨e,z,q⟩|⟨e,z,q⟩
   ·cases z;exact .inl ⟨e,rfl,q⟩
   ·exact .inr ⟨e,.inl ⟨m,gs,z⟩,q⟩
  ·rcases lt h with ⟨e,z,q⟩|⟨e,z,q⟩
   ·nomatch z
   ·exact .inr ⟨e,.inr ⟨gs,z⟩,q⟩
 have old:∀{j:Nat} {c':Str} {b:Addr},ObS τ[j]? c'→σ[j]?=some (some (.ref b))→b≠a∧∀l∈Lof H c' b,H1 l≠none:=fun {j c' b} h e=>by
  obtain⟨b',C,dx,vs,gs,h1,h2,h3⟩:=R1.rv.ob.get h
  rw[e] at h1;replace h1:=tI_ h1;subst h1
  refine⟨fun z=>(by subst z;rw[ha] at h2;nomatch h2),fun l hl z=>?_⟩
  rw[Lof.ins (ex.hh _ _ h2:H b=some (.ins C dx vs)),h3.same fun l ws _ e1=>ex.hh _ _ e1] at hl
  refine X01 (h3.own hl) fun _ r80_=>?_;refine X10 r80_ fun ws q=>?_
  rw[z] at q;nomatch q
 refine⟨⟨R.rv.fh,by simp[len],fun j d h=>?_,fun j ds h=>?_,fun j k ds es b hjk h1 h2 h3 h4=>?_,R.rv.tt,⟨fun j m c1 g h=>?_,fun j k m c1 c2 g1 b hjk h1 h2 h3 h4=>?_,fun j c1 g h=>?_,fun j k m c1 c2 g1 b b' l hjk h1 h2 h3 h4 h5 h6=>?_,fun j k c1 ds b l h1 h2 h3 h4 h5=>?_⟩⟩,R.bh,R.zf,R.nb,fun j ds b h1 h2=>?_,fun j m c1 g b h1 h2=>?_,fun a0 dx b1 b2 j m c1 g h=>?_,fun j c1 g b h1 h2=>?_⟩
 ·rcases lt h with ⟨_,z,_⟩|⟨_,z,q⟩
  ·nomatch z
  ·rw[q];exact R.rv.val j d z
 ·rcases lt h with ⟨_,z,_⟩|⟨_,z,q⟩
  ·nomatch z
  ·rw[q];exact R.rv.own j ds z
 ·rcases lt h1 with ⟨_,z,_⟩|⟨_,z1,q1⟩
  ·nomatch z
  ·rcases lt h2 with ⟨_,z,_⟩|⟨_,z2,q2⟩
   ·nomatch z
   ·rw[q1] at h3;rw[q2] at h4
    exact R.rv.dis j k ds es b hjk z1 z2 h3 h4
 ·rcases lt h with ⟨_,z,q⟩|⟨_,z,q⟩
  ·cases z;exact Y11 a q ob
  ·rw[q];exact R.rv.ob.at_ j m c1 g z
 ·rcases lt h1 with ⟨e1,z,q1⟩|⟨_,z1,q1⟩
  ·rw[q1] at h3;replace h3:=tI_ h3;subst h3
   rcases ltS h2 with ⟨e2,_,_⟩|⟨_,z2,q2⟩
   ·exact hjk (e1.symm.trans e2)
   ·rw[q2] at h4;exact(old z2 h4).1 rfl
  ·rw[q1] at h3
   rcases ltS h2 with ⟨_,_,q2⟩|⟨_,z2,q2⟩
   ·rw[q2] at h4;replace h4:=tI_ h4;subst h4
    exact(old (.inl ⟨m,g1,z1⟩) h3).1 rfl
   ·rw[q2] at h4
    exact R.rv.ob.dis j k m c1 c2 g1 b hjk z1 z2 h3 h4
 ·rcases lt h with ⟨_,z,q⟩|⟨_,z,q⟩
  ·nomatch z
  ·obtain⟨a',C,dx,vs,r⟩:=R.rv.ob.rd j c1 g z
   exact Y41 a' C dx vs (by rw[q];exact r.1) r.2
 ·rcases lt h1 with ⟨e1,z,q1⟩|⟨_,z1,q1⟩
  ·cases z
   rw[q1] at h3;replace h3:=tI_ h3;subst h3
   rcases ltS h2 with ⟨e2,_,_⟩|⟨_,z2,q2⟩
   ·exact hjk (e1.symm.trans e2)
   ·rw[q2] at h4;exact(old z2 h4).2 l h6 (hf l h5)
  ·rw[q1] at h3
   rcases ltS h2 with ⟨_,ec,q2⟩|⟨_,z2,q2⟩
   ·subst ec
    rw[q2] at h4;replace h4:=tI_ h4;subst h4
    exact(old (.inl ⟨m,g1,z1⟩) h3).2 l h5 (hf l h6)
   ·rw[q2] at h4
    exact R.rv.ob.ll j k m c1 c2 g1 b b' l hjk z1 z2 h3 h4 h5 h6
 ·rcases lt h2 with ⟨_,z,_⟩|⟨_,z2,q2⟩
  ·nomatch z
  ·rw[q2] at h4
   rcases ltS h1 with ⟨_,ec,q1⟩|⟨_,z1,q1⟩
   ·subst ec
    rw[q1] at h3;replace h3:=tI_ h3;subst h3
    refine X22 (R1.rv.own k ds z2) fun p ws g1 g2 _=>?_
    rw[h4] at g1;replace g1:=tI_ g1;subst g1
    rw[hf l h5] at g2;nomatch g2
   ·rw[q1] at h3
    exact R.rv.ob.lo j k c1 ds b l z1 z2 h3 h4 h5
 ·rcases lt h1 with ⟨_,z,_⟩|⟨_,z,q⟩
  ·nomatch z
  ·rw[q] at h2;exact R.ob j ds b z h2
 ·rcases lt h1 with ⟨_,z,q⟩|⟨_,z,q⟩
  ·cases z
   rw[q] at h2;replace h2:=tI_ h2;subst h2
   exact⟨xm R1.bh ha,fun l hl=>xm R1.bh (hf l hl)⟩
  ·rw[q] at h2;exact R.oo j m c1 g b z h2
 ·rcases lt h with ⟨_,z,_⟩|⟨_,z,q⟩
  ·cases z
  ·rw[q];exact R.sf a0 dx b1 b2 j m c1 g z
 ·rcases lt h1 with ⟨_,z,_⟩|⟨_,z,q⟩
  ·nomatch z
  ·rw[q] at h2;exact R.ro j c1 g b z h2
noncomputable def YN(i:Nat)(c:Str)(g:Fs→List D→Rs (D×Fs))(fs:FA):FS:=fun τ=>Fl.of (fs τ) fun ds=>match g [] ds with
 | .ok (.non,o)=>.nx (τ.set i (some (.obj 0 c o)))
 |_=>.no
section
variable{X:Cx}{pos:Pos}{e:Expr}{es:List Expr}{fs:FA}{c x:Str}{i k n:Nat}{ps:List Str}
theorem zg7{C:Addr}{g:Fs→List D→Rs (D×Fs)}(hC:nsIn X.K mainGlobals c=some (some (.ref C)))(hfs:∀τ ds,fs τ=.ok ds→ds.length=n){σ:St}{H B Z F:Hp}{τ:DS}{E:WT}(R:RS X.K B Z F τ σ H)(h:Post X B Z F E (YN i c g fs τ)) :
  zl4 C (spM X.K c 0 n g) [] E0 (tAs X fs) σ H fun v H'=>E.nx (σ.set i (some v)) H':=by
 have hb:=Post.of h
 refine Y21 F τ R.rv ?_
 cases q:fs τ with
 |no=>rw[q] at hb;exact hb
 |ex c=>rw[q] at hb;exact hb
 |ok ds=>
  rw[q] at hb
  intro us F1 H1 x r y dx hy hdx hne
  have R1:=R.ext x
  have hFy:=zF x.fh hy
  rw[List.append_nil]
  have hk:∀{b:Addr} {u:HO},H1 b=some u→upd (upd H1 dx (.own y)) y (.ins C dx []) b=some u:=fun {b u} e=>by
   rw[zj (zC e hy),zj (zC e hdx)];exact e
  have hD:upd (upd H1 dx (.own y)) y (.ins C dx []) dx=some (.own y):=by rw[zj hne,zp]
  have hL:Lof (upd (upd H1 dx (.own y)) y (.ins C dx [])) c y=[]:=by rw[Lof.ins zp];rfl
  refine⟨by rw[List.length_cons,← r.length,hfs τ ds q],y,[],us,[],ds,[],F1,rfl,rfl,⟨C,dx,[],zp,hFy,hC,trivial,hD,by show([]:List Addr).Nodup;exact List.nodup_nil⟩,fun b u e=>hk (x.fh b u e),⟨fun t ht=>?_,fun d b e=>?_⟩,Reps.nil,r,?_⟩
  ·obtain⟨t1,t2⟩:=R1.rv.tt.1 t ht
   refine⟨t1,?_⟩
   rcases t2 with z|⟨c',z,z2⟩
   ·exact .inl (hk z)
   ·exact .inr ⟨c',hk z,hk z2⟩
  ·by_cases zd:d=dx
   ·subst zd;rw[hD] at e;replace e:=L2.HO.own.inj (Option.some.inj e);subst e;exact⟨C,d,[],zp⟩
   ·by_cases zy:d=y
    ·subst zy;rw[zp] at e;nomatch e
    ·rw[zj zy,zj zd] at e
     obtain⟨C',dx',vs,h⟩:=R1.rv.tt.2 d b e
     exact⟨C',dx',vs,hk h⟩
  ·rw[List.nil_append]
   dsimp only [Ok] at hb
   cases z:g [] ds with
   |ex c=>rw[z] at hb;exact hb.elim
   |no=>rw[z] at hb;exact hb.elim
   |ok p=>
    obtain⟨d,o⟩:=p
    rw[z] at hb
    cases d with
    |non=>
     dsimp only at hb
     intro v F' H' xo ob nw rep
     simp only[Rep] at rep
     refine⟨rep,?_⟩
     have hF':F' y=none:=by obtain⟨_,_,_,_,h,_⟩:=ob;exact h
     have ex:Ext F1 H1 F' H':=⟨xo.ff,Hh.trans (fun b u e=>.of (by rw[uN (zC e hy) (by rw[hL];simp)];exact hk e)) xo.hh,xo.fh,fun b u e=>by
      rcases xo.nw b u e with z|z
      ·exact .inl z
      ·rcases jc z with z|z|z
       ·subst z;rw[hF'] at e;nomatch e
       ·rw[hL] at z;cases z
       ·by_cases n:b=y
        ·subst n;rw[zp] at z;nomatch z
        ·rw[zj n] at z
         by_cases n2:b=dx
         ·subst n2;rw[zp] at z;nomatch z
         ·rw[zj n2] at z;exact .inr z,fun _=>xo.tt⟩
     refine hb _ F' H' (x.ff.trans xo.ff) (R1.setObj ex ob hy fun l hl=>?_)
     rcases nw l hl with z|z
     ·rw[hL] at z;cases z
     ·by_cases n:l=y
      ·subst n;exact hy
      ·rw[zj n] at z
       by_cases n2:l=dx
       ·subst n2;exact hdx
       ·rw[zj n2] at z;exact z
    |_=>exact hb.elim
theorem UY{g:Fs→List D→Rs (D×Fs)}{p1 pos' cpos:Pos}(M:ClsM X.prog X.w X.K X.mg X.base c k n ps g)(hr:Room (k+1) X.A)(hg:Gl X c)(ha:PDA X (e::es) fs)(hfs:∀τ ds,fs τ=.ok ds→ds.length=n)
  (hN:X.N.Nodup) (hi:X.N[i]?=some x) (hx:Loc X.env.scope x) (hdb:(c==("__debug__" : Str))=false:=by decide) (hst:starEach (e::es) X.env=(false,eval e X.env)::starEach es X.env:=by rfl) (hpl:(backTo cpos (starEach es X.env)).any (·.1)=false:=by rfl)
  (hs:swapsWith (.Call (.Name c p1) (e::es) [] cpos) (some (.Name x pos')) pos.line X.env=pure false:=by rfl) (hf:X.fn x=true∨X.env.scope.names.lookup x=some .local:=by first|exact .inl rfl|exact .inr rfl|assumption) :
  PDS X (.Assign [.Name x pos'] (.Call (.Name c p1) (e::es) [] cpos) pos) (YN i c g fs):=by
 obtain⟨C,f,fd,hC,hm,M,F,hb⟩:=M
 exact PS.imp (VW hN hi hx (ze4 M F hr hg hm hb .nil (E:=E0) j9 ha hdb hst hpl) hs hf) fun E σ H z_=>by refine X41 z_ fun B Z F τ R h=>?_;exact zg7 hC hfs R h
end
structure ClsAt(K:Frag)(mg:Str→Option Value)(c:Str)(C:Addr):Prop where
 ns:nsIn K mainGlobals c=some (some (.ref C))
 cls:Cls K C
 at_:mg c=some (.ref C)
section
variable{P:Program}{w:World}{K:Frag}{mg:Str→Option Value}{base:Heap}
theorem MetM.mk{c m qual:Str}{C:Addr}{st:Stmt}{f:Addr}{fd:FuncData}{N ps:List Str}{k n:Nat}{fb:FS}(A:ClsAt K mg c C)(hm:ZE K C m f)(D:Fun K m qual st f fd)(S:zD N ps (zh st))(hn:ps.length=n+1)
  (hb:∀(kV doc pm:Value) (an:Option Addr) (cdv ct:Value) (us:List Value),us.length=ps.length→bindArgs (fnOf m qual (zG st) (zx st) (zh st) .none kV doc pm an cdv ct) ⟨us,[]⟩=pure (ps.zip us))
  (hbody:∀(cdv:Value) (A:Around) (outer:List Env) (s:Shared) (H:Hp) (E:XK),Room k (A.deeper (envOfC qual (zh st) s.heap.objs.size f cdv)) →
   uc (jJ CX0 P w K mg base N qual (zh st) f cdv A outer s H E).nox (zx st) fb):MetM P w K mg base c m (k+1) n ps (ZO N.length 0 c fb):=
 ⟨C,f,fd,A.ns,A.cls,hm,fnM D S hn hbody,D.binds hb⟩
theorem MetR.mk{c m qual:Str}{C:Addr}{st:Stmt}{f:Addr}{fd:FuncData}{N ps:List Str}{k n:Nat}{fb:FS}(A:ClsAt K mg c C)(hm:ZE K C m f)(D:Fun K m qual st f fd)(S:zD N ps (zh st))(hn:ps.length=n+1)
  (hb:∀(kV doc pm:Value) (an:Option Addr) (cdv ct:Value) (us:List Value),us.length=ps.length→bindArgs (fnOf m qual (zG st) (zx st) (zh st) .none kV doc pm an cdv ct) ⟨us,[]⟩=pure (ps.zip us))
  (hbody:∀(cdv:Value) (A:Around) (outer:List Env) (s:Shared) (H:Hp) (E:XK),Room k (A.deeper (envOfC qual (zh st) s.heap.objs.size f cdv)) →
   uc (jJ CX0 P w K mg base N qual (zh st) f cdv A outer s H E).nox (zx st) fb):MetR P w K mg base c m (k+1) n ps (ZN N.length 0 c fb):=
 ⟨C,f,fd,A.ns,A.cls,hm,fnR D S hn hbody,D.binds hb⟩
theorem ClsM.mk{c qual:Str}{C:Addr}{st:Stmt}{f:Addr}{fd:FuncData}{N ps:List Str}{k n:Nat}{fb:FS}(A:ClsAt K mg c C)(hm:Mk K C f)(D:Fun K "__init__" qual st f fd)(S:zD N ps (zh st))(hn:ps.length=n+1)
  (hb:∀(kV doc pm:Value) (an:Option Addr) (cdv ct:Value) (us:List Value),us.length=ps.length→bindArgs (fnOf "__init__" qual (zG st) (zx st) (zh st) .none kV doc pm an cdv ct) ⟨us,[]⟩=pure (ps.zip us))
  (hbody:∀(cdv:Value) (A:Around) (outer:List Env) (s:Shared) (H:Hp) (E:XK),Room k (A.deeper (envOfC qual (zh st) s.heap.objs.size f cdv)) →
   uc (jJ CX0 P w K mg base N qual (zh st) f cdv A outer s H E).nox (zx st) fb):ClsM P w K mg base c (k+1) n ps (ZO N.length 0 c fb):=
 ⟨C,f,fd,A.ns,A.at_,hm,fnM D S hn hbody,D.binds hb⟩
theorem DefR.mk{x c:Str}{st:Stmt}{f:Addr}{fd:FuncData}{N ps:List Str}{k n j:Nat}{fb:FS}(D:z7 K mg x st f fd)(S:zD N ps (zh st))(hn:ps.length=n+1)
  (hb:∀(kV doc pm:Value) (an:Option Addr) (cdv ct:Value) (us:List Value),us.length=ps.length→bindArgs (fnOf x x (zG st) (zx st) (zh st) .none kV doc pm an cdv ct) ⟨us,[]⟩=pure (ps.zip us))
  (hbody:∀(cdv:Value) (A:Around) (outer:List Env) (s:Shared) (H:Hp) (E:XK),Room k (A.deeper (envOfC x (zh st) s.heap.objs.size f cdv)) →
   uc (jJ CX0 P w K mg base N x (zh st) f cdv A outer s H E).nox (zx st) fb):DefR P w K mg base x c (k+1) j n ps (ZN N.length j c fb):=
 ⟨f,fd,fnR D.fn S hn hbody,D.fn.binds hb,D.fn.kp,D.at_⟩
end
noncomputable def ItH(K:Frag)(J:It)(F1 H1:Hp)(ds:List D):Prop:=∀(i:Nat) (F H:Hp),Same F1 F→Same F H→Hh H1 H →
 (ds.length≤i→J.stop i H)∧∀d,ds[i]?=some d→J.go i H∧∀x H',J.yld i H x H'→∃F',Ext F H F' H'∧Rep K F' d x
noncomputable def tIh(X:Cx)(f:FA):TI:=fun σ H R=>∃F τ,RV X.K F τ σ H∧Ok X (f τ) fun ds=>∀J F1 H1,Ext F H F1 H1→ItH X.K J F1 H1 ds→R J H1
noncomputable def zl1(X:Cx)(tg iter:Expr)(f:FA):Prop:=PI X tg iter (tIh X f)
theorem PDI.h{X:Cx}{tg e:Expr}{f:FA}(h:PDI X tg e f):zl1 X tg e f:=PI.imp h fun σ H R z_=>by refine X21 z_ fun F τ Rv q=>?_;exact Y21 F τ Rv (q.imp fun ds g J F1 H1 x io=>g J F1 H1 x fun i F H a b _=>io i F H a b)
section
variable{X:Cx}{scope:Scope}{tn fr:List Str}{idx:List Nat}{tg iter elt:Expr}{ifs:List Expr}{pos:Pos}{fi:FA}{set:FG}{ft:FT}{fe:FE}
theorem Zy(so:Y7 set){Y:Cx}(hK:Y.K=X.K)(σ:St)(H:Hp)(Q:VK)(h:tFr X (xK tn.length idx fi set ft fe) σ H Q):UE (wf tn.length idx) (tIh X fi) (tG Y set) (tTs Y ft) (tE Y fe) σ H Q:=by
 obtain⟨F,τ,R,h⟩:=h
 refine Y21 F τ R (h.bind.imp fun ds gds J F1 H1 x io=>fun acc hacc=>?_)
 cases q:vE set ft fe (vx tn.length idx τ) ds with
 |no=>rw[q] at gds;exact gds.elim
 |ex c=>rw[q] at gds;exact gds.elim
 |ok xs=>
  rw[q] at gds
  obtain⟨hz,k⟩:=yG gds
  have R1:=R.ext x
  have hF1:F1 acc=none:=zF x.fh hacc
  refine⟨fun i m σ1 Hc=>m=ds.length-i∧i≤ds.length∧∃F2 Hm τ1 dn rs vs,CWH X.K set ft fe (vx tn.length idx τ) ds xs F1 H1 acc i σ1 Hc F2 Hm τ1 dn rs vs,⟨ds.length,by simp,Nat.zero_le _,F1,H1,_,[],xs,[],Ext.refl x.fh,hacc,rfl,Reps.nil,?_,wT _ _ _,fun _=>rfl,q,rfl⟩,?_⟩
  ·exact(QX tn.length idx R1).free_upd (wT _ _ _) hacc hF1 (.inl hacc)
  rintro i m σ1 Hc ⟨rfl,hi,F2,Hm,τ1,dn,rs,vs,x2,hm,rfl,r2,R2,n2,so2,cl,ex⟩
  obtain⟨i1,i2⟩:=io i F2 _ x2.ff R2.rv.fh (x2.hh.trans (.of (yq hm)))
  by_cases hlt:i<ds.length
  ·have hd:ds.drop i=ds[i]::ds.drop (i+1):=List.drop_eq_getElem_cons hlt
   rw[hd,vE] at cl
   obtain⟨go,yl⟩:=i2 ds[i] (by simp[hlt])
   refine .inr ⟨go,fun y H' yy=>?_⟩
   refine X11 (yl y H' yy) fun F3 x3 r3=>?_
   refine⟨F3,τ1,ds[i],by rw[hK];exact(R2.ext x3).rv,by rw[hK];exact r3,?_⟩
   rw[so2]
   cases e1:set ds[i] (vx tn.length idx τ) with
   |no=>rw[e1] at cl;nomatch cl
   |ex c=>rw[e1] at cl;nomatch cl
   |ok τ2=>
    rw[e1] at cl
    simp only at cl
    intro σ2 _ RR _
    rw[hK] at RR
    have RR:=RR _ _ (R2.ext x3)
    have n3:=so.no _ _ _ e1 (wT _ _ _)
    have so3:∀d,set d τ2=set d (vx tn.length idx τ):=fun d=>so.ov d _ _ _ e1
    cases e2:ft τ2 with
    |no=>rw[e2] at cl;nomatch cl
    |ex c=>rw[e2] at cl;nomatch cl
    |ok b=>
     rw[e2] at cl
     refine Y21 F3 τ2 (by rw[hK];exact RR.rv) ?_
     rw[e2]
     intro F4 H4 x4
     have x34:=x3.trans x4
     cases b with
     |false=>
      simp only at cl
      rw[if_neg (by simp)]
      obtain⟨y1,y2⟩:=uQ x2 hm x34
      have ha:H4 acc=some (.lst vs):=x34.hh acc _ zp
      have eH:H4=upd (xC H4 acc) acc (.lst vs):=by
       rw[uD];funext b;unfold upd;split
       ·rename_i z;subst z;exact ha
       ·rfl
      refine⟨ds.length-(i+1),by lia,rfl,hlt,F4,xC H4 acc,τ2,dn,rs,vs,y1,wz _ _,eH,r2.mono x34.ff,RR.ext x4,n3,so3,cl,ex⟩
     |true=>
      simp only at cl
      rw[if_pos rfl]
      cases e3:fe τ2 with
      |no=>rw[e3] at cl;nomatch cl
      |ex c=>rw[e3] at cl;nomatch cl
      |ok z=>
       rw[e3] at cl
       simp only at cl
       cases e4:vE set ft fe (vx tn.length idx τ) (ds.drop (i+1)) with
       |no=>rw[e4] at cl;cases cl
       |ex c=>rw[e4] at cl;cases cl
       |ok rs'=>
        rw[e4] at cl
        have ers:z::rs'=rs:=by simpa using cl
        refine Y21 F4 τ2 (by rw[hK];exact(RR.ext x4).rv) ?_
        rw[e3]
        intro v F5 H5 x5 r5
        rw[hK] at r5
        have x35:=x34.trans x5
        obtain⟨y1,y2⟩:=uQ x2 hm x35
        refine⟨vs,x35.hh acc _ zp,?_,ds.length-(i+1),by lia,rfl,hlt,F5,xC H5 acc,τ2,dn++[z],rs',vs++[v],y1,wz _ _,by rw[uD],(r2.mono x35.ff).append (Reps.cons r5 Reps.nil),?_,n3,so3,e4,?_⟩
        ·have:=congrArg List.length ex
         rw[← ers,List.length_append,List.length_cons,r2.length] at this
         lia
        ·exact((RR.ext x4).ext x5).free_upd n3 hacc y2 (.inr ⟨_,x35.hh acc _ zp⟩)
        ·rw[ex,← ers,List.append_assoc];rfl
  ·have e:i=ds.length:=by lia
   subst e
   rw[List.drop_length,vE] at cl
   replace cl:=oI_ cl;subst cl
   rw[List.append_nil] at ex
   subst ex
   exact .inl ⟨i1 (Nat.le_refl _),k acc vs F2 Hm (x.trans x2) hm r2⟩
theorem uJ(hb:vT X.env.scope scope=true)(hc:X.calm=true)(hfr:FreeOk scope X.N fr idx)(so:Y7 set)(hi:zl1 X tg iter fi)
  (hg:∀s H C fp,PDG (X.comp scope (tn++fr) s H C fp) tg set) (ht:∀s H C fp,M1 (X.comp scope (tn++fr) s H C fp) ifs ft) (he:∀s H C fp,PDE (X.comp scope (tn++fr) s H C fp) elt fe)
  (hs:∀x,foldedSetIterable iter X.env x=pure x:=by intro _;rfl):PDF X (.ListComp elt [⟨tg,iter,ifs,0⟩] scope pos) (xK tn.length idx fi set ft fe):=
 PE.imp (Xi (s0:=wf tn.length idx) (g:=tG (X.comp scope (tn++fr) X.s₀ X.H₀ 0 []) set) (ti:=tTs (X.comp scope (tn++fr) X.s₀ X.H₀ 0 []) ft) (te:=tE (X.comp scope (tn++fr) X.s₀ X.H₀ 0 []) fe)
  (xV hb) hc (fun σ _=>by simp[wf,hfr.len]) (uV hfr) hi hg ht he hs) (Zy so rfl)
theorem Vb{i:Nat}{y:Str}{py spos:Pos}(hN:X.N.Nodup)(hiN:X.N[i]?=some y)(hy:X.env.scope.names.lookup y=some .local)
  (hsw:swapsWith (.ListComp elt [⟨tg,iter,ifs,0⟩] scope pos) (some (.Name y py)) spos.line X.env=pure true)
  (hb:vT X.env.scope scope=true) (hc:X.calm=true) (hfr:FreeOk scope X.N fr idx) (so:Y7 set) (hi:zl1 X tg iter fi)
  (hg:∀s H C fp,PDG (X.comp scope (tn++fr) s H C fp) tg set) (ht:∀s H C fp,M1 (X.comp scope (tn++fr) s H C fp) ifs ft) (he:∀s H C fp,PDE (X.comp scope (tn++fr) s H C fp) elt fe)
  (hs:∀x,foldedSetIterable iter X.env x=pure x:=by intro _;rfl):PDS X (.Assign [.Name y py] (.ListComp elt [⟨tg,iter,ifs,0⟩] scope pos) spos) (yQ i fun τ=>(xK tn.length idx fi set ft fe τ).bind fun ds=>.ok (.lst ds)):=
 PS.imp (Q2 (s0:=wf tn.length idx) (g:=tG (X.comp scope (tn++fr) X.s₀ X.H₀ 0 []) set) (ti:=tTs (X.comp scope (tn++fr) X.s₀ X.H₀ 0 []) ft) (te:=tE (X.comp scope (tn++fr) X.s₀ X.H₀ 0 []) fe) hN hiN hy hsw
  (xV hb) hc (fun σ _=>by simp[wf,hfr.len]) (uV hfr) hi hg ht he hs) fun E σ H ⟨B,Z,F,τ,R,h⟩=>by
  refine Zy (X:=X) (tn:=tn) (idx:=idx) (fi:=fi) (ft:=ft) (fe:=fe) so (Y:=X.comp scope (tn++fr) X.s₀ X.H₀ 0 []) rfl σ H (fun x H1=>Zc i x σ H1 E.nx) ⟨F,τ,R.rv,?_⟩
  have h':=h.of.bind
  refine h'.imp fun ds g p vs F1 H1 x hp r=>?_
  have x2:=x.trans (Ext.new (o:=.lst vs) x.fh hp)
  refine g _ _ _ x2.ff ((R.ext x2).set ?_)
  simp only[Rep]
  exact Y22 p vs rfl zp (r.mono (yq (zF x.fh hp)))
theorem J3{i:Nat}{y:Str}{py spos:Pos}(hN:X.N.Nodup)(hiN:X.N[i]?=some y)(hy:X.env.scope.names.lookup y=some .local)
  (hsw:swapsWith (.ListComp elt [⟨tg,iter,ifs,0⟩] scope pos) (some (.Name y py)) spos.line X.env=pure true)
  (hb:vT X.env.scope scope=true) (hc:X.calm=true) (hfr:FreeOk scope X.N fr idx) (so:Y7 set) (hi:zl1 X tg iter fi)
  (hg:∀s H C fp,PDG (X.comp scope (tn++fr) s H C fp) tg set) (ht:∀s H C fp,M1 (X.comp scope (tn++fr) s H C fp) ifs ft) (he:∀s H C fp,PDE (X.comp scope (tn++fr) s H C fp) elt fe)
  (hs:∀x,foldedSetIterable iter X.env x=pure x:=by intro _;rfl):PDS X (.Assign [.Name y py] (.ListComp elt [⟨tg,iter,ifs,0⟩] scope pos) spos) (uG i (xK tn.length idx fi set ft fe)):=
 PS.imp (Q2 (s0:=wf tn.length idx) (g:=tG (X.comp scope (tn++fr) X.s₀ X.H₀ 0 []) set) (ti:=tTs (X.comp scope (tn++fr) X.s₀ X.H₀ 0 []) ft) (te:=tE (X.comp scope (tn++fr) X.s₀ X.H₀ 0 []) fe) hN hiN hy hsw
  (xV hb) hc (fun σ _=>by simp[wf,hfr.len]) (uV hfr) hi hg ht he hs) fun E σ H ⟨B,Z,F,τ,R,h⟩=>by
  refine Zy (X:=X) (tn:=tn) (idx:=idx) (fi:=fi) (ft:=ft) (fe:=fe) so (Y:=X.comp scope (tn++fr) X.s₀ X.H₀ 0 []) rfl σ H (fun x H1=>Zc i x σ H1 E.nx) ⟨F,τ,R.rv,?_⟩
  exact h.of.imp fun ds g p vs F1 H1 x hp r=>g _ F1 _ x.ff ((R.ext x).setO hp r)
end
section
variable{X:Cx}{pos:Pos}{e tg:Expr}{es:List Expr}{fe:FE}{fs:FA}{c f x:Str}{i:Nat}{C:Addr}
theorem itl_h{K:Frag}{F H H1:Hp}{l:Addr}{ds:List D}{ws:List V}{i:Nat}(hl:H1 l=some (.lst ws))(hh:Hh H1 H)(fh:Same F H)(r:Reps K F ds ws) :
  (ds.length≤i→(Itl K l).stop i H)∧∀d,ds[i]?=some d→(Itl K l).go i H∧∀x H',(Itl K l).yld i H x H'→∃F',Ext F H F' H'∧Rep K F' d x:=by
 have q:SqL K H l ws:=SqL.of (hh _ _ hl)
 refine⟨fun h=>⟨ws,q,by rw[← r.length];exact h⟩,fun d hd=>?_⟩
 refine X11 (r.get hd) fun v h1 h2=>?_
 refine⟨⟨ws,v,q,h1⟩,fun x H' y=>?_⟩
 obtain⟨e1,y⟩:=y
 subst e1
 have h3:=y ws q
 rw[h1] at h3;replace h3:=sI_ h3;subst h3
 exact Y11 F (Ext.refl fh) h2
end
section
variable{P:Program}{w:World}{K:Frag}{mg:Str→Option Value}{base:Heap}
end
section
variable{X:Cx}{pos:Pos}{e:Expr}{es:List Expr}{fs:FA}{c c2 m x y:Str}{i k n h_:Nat}{ps:List Str}
end
section
variable{X:Cx}{pos:Pos}{e a b:Expr}{es:List Expr}{fe fa fb fi:FE}{C:Addr}{c f x:Str}{i:Nat}
end
noncomputable def Uh:List D→Option (List Int)
 |[]=>some []
 |.int i::r=>(Uh r).map (i :: ·)
 |_::_=>none
theorem Gz:∀{ds:List D} {ns:List Int},Uh ds=some ns→ds=ns.map D.int
 |[],ns,h=>by cases h;rfl
 |.int i::r,ns,h=>by
  simp only[Uh] at h
  cases q:Uh r with
  |none=>rw[q] at h;cases h
  |some m=>rw[q] at h;cases h;rw[List.map_cons,← Gz q]
 |.non::r,ns,h=>by cases h
 |.bl _::r,ns,h=>by cases h
 |.str _::r,ns,h=>by cases h
 |.lst _::r,ns,h=>by cases h
 |.tup _::r,ns,h=>by cases h
 |.scr _::r,ns,h=>by cases h
 |.raw _::r,ns,h=>by cases h
 |.exc _::r,ns,h=>by cases h
 |.dct _ _::r,ns,h=>by cases h
theorem vals_ints:∀{vs:List Value} {ns:List Int},IntsAre vs ns→Vals (ns.map V.int) vs
 |_,_,.nil=>.nil
 |_,_,.cons n t r=>.cons ⟨t,rfl⟩ (vals_ints r)
noncomputable def Qo(a:Int):List Int→List Int
 |[]=>[a]
 |b::r=>if a≤b then a::b::r else b::Qo a r
noncomputable def ZI:List Int→List Int
 |[]=>[]
 |a::r=>Qo a (ZI r)
theorem YJ(a:Int):∀l,(Qo a l).Perm (a::l):=by
 intro l_
 induction l_ with
 |nil=>
  exact List.Perm.refl _
 |cons b r ih_=>
  unfold Qo
  split
  ·exact List.Perm.refl _
  ·exact((ih_).cons b).trans (List.Perm.swap a b r)
theorem jR:∀l,(ZI l).Perm l:=by
 intro l_
 induction l_ with
 |nil=>
  exact List.Perm.refl _
 |cons a r ih_=>
  exact(YJ a _).trans ((ih_).cons a)
theorem GB(a:Int):∀l:List Int,l.Pairwise (·≤·)→(Qo a l).Pairwise (·≤·):=by
 intro l_
 induction l_ with
 |nil=>
  rintro _
  simp[Qo]
 |cons b r ih_=>
  rintro h
  unfold Qo
  have h':=List.pairwise_cons.mp h
  split
  ·rename_i z
   refine List.pairwise_cons.mpr ⟨fun x hx=>?_,h⟩
   rcases List.mem_cons.mp hx with rfl|hx
   ·exact z
   ·exact Int.le_trans z (h'.1 x hx)
  ·rename_i z
   refine List.pairwise_cons.mpr ⟨fun x hx=>?_,ih_ h'.2⟩
   rcases List.mem_cons.mp ((YJ a r).mem_iff.mp hx) with rfl|hx
   ·lia
   ·exact h'.1 x hx
theorem VH:∀l:List Int,(ZI l).Pairwise (·≤·):=by
 intro l_
 induction l_ with
 |nil=>
  exact List.Pairwise.nil
 |cons a r ih_=>
  exact GB a _ (ih_)
theorem VF:∀{l m:List Int},l.Pairwise (·≤·)→m.Pairwise (·≤·)→l.Perm m→l=m
 |[],m,_,_,p=>by rw[List.nil_perm.mp p]
 |a::l,[],_,_,p=>by have:=p.length_eq;simp at this
 |a::l,b::m,h1,h2,p=>by
  have g1:=List.pairwise_cons.mp h1
  have g2:=List.pairwise_cons.mp h2
  have e:a=b:=by
   have ha:a∈b::m:=p.mem_iff.mp List.mem_cons_self
   have hb:b∈a::l:=p.mem_iff.mpr List.mem_cons_self
   have i1:b≤a:=by
    rcases List.mem_cons.mp ha with z|z
    ·exact Int.le_of_eq z.symm
    ·exact g2.1 a z
   have i2:a≤b:=by
    rcases List.mem_cons.mp hb with z|z
    ·exact Int.le_of_eq z.symm
    ·exact g1.1 b z
   lia
  subst e
  rw[VF g1.2 g2.2 p.cons_inv]
noncomputable def G4:List D→Rs D
 |[.lst ds]=>match Uh ds with
  |some ns=>if ns.length<64 then .ok (.lst ((ZI ns).map D.int)) else .no
  |none=>.no
 |_=>.no
section
variable{X:Cx}{pins:List (Addr×Obj)}{σ:St}{F H:Hp}{s:Shared}{Q:VK}{E:Value→Shared→Prop}
theorem JS{l:Addr}{vs:List V}{ns:List Int}(I:Inv X pins σ H s)(fh:Same F H)(hl:F l=some (.lst vs))(rs:Reps X.K F (ns.map D.int) vs)(h64:ns.length<64)
  (hQ:∀Da F' H',Ext F H F' H'→Rep X.K F' (.lst ((ZI ns).map D.int)) (.ref Da)→Q (.ref Da) H') :
  wpAny (model X.prog X.w) X.A (call (.builtin "sorted") [.ref l]) (EP X pins σ Q) E s:=by
 obtain⟨us,rv,⟨o,nn,eo,hc,hd0,hd⟩,hz⟩:=I.list (SqL.of (K:=X.K) (fh _ _ hl))
 have hi:IntsAre us ns:=X9 rs rv
 refine sorted_ints (vs:=us) ⟨o,eo,hc,nn,hd⟩ hi (by have:=hi.length;lia) fun out ns' a1 a2 a3=>?_
 obtain⟨e,he⟩:=sortedAll_at s.heap us out
 have en:ns'=ZI ns:=VF a3 (VH ns) (a2.trans (jR ns).symm)
 subst en
 have hp:s.heap.objs.size≤s.heap.objs.size+1:=Nat.le_succ _
 have nH:H (s.heap.objs.size+1)=none:=I.hok.fresh hp
 have ll:((ZI ns).map V.int).length≤sizeLine:=by
  rw[List.length_map,(jR ns).length_eq]
  exact Nat.le_of_lt (wW (by lia))
 refine Y22 (.ref (s.heap.objs.size+1)) _ (I.laid (t':=s.toks) (o:=.lst ((ZI ns).map V.int)) (fun b u q=>sortedAll_old q) hp ⟨ll,out.toList,e,vals_ints a1,by rw[Array.toArray_toList];exact he⟩) rfl (hQ _ (upd F (s.heap.objs.size+1) (.lst ((ZI ns).map V.int))) _ (Ext.new fh nH) ?_)
 simp only[Rep]
 exact Y22 _ _ rfl zp (Reps.ints _)
theorem za1:JJ X (.builtin "sorted") G4:=⟨fun vs H Q=>∃(F:Hp) (l:Addr) (ws:List V) (ns:List Int),vs=[.ref l]∧Same F H∧F l=some (.lst ws)∧Reps X.K F (ns.map D.int) ws∧ns.length<64 ∧
  ∀Da F' H',Ext F H F' H'→Rep X.K F' (.lst ((ZI ns).map D.int)) (.ref Da)→Q (.ref Da) H',fun pins s σ H vs us Q I r ⟨F,l,ws,ns,e1,fh,hl,rs,h64,q⟩=>by
  subst e1
  obtain⟨u,rfl,r1⟩:=vals1 r
  cases r1
  exact JS I fh hl rs h64 q,fun F H vs ds Q fh r h=>by
  match ds,r,h with
  |[.lst ds],r,h=>
   obtain⟨v,rfl,r1⟩:=r.one
   simp only[G4] at h
   cases q:Uh ds with
   |none=>rw[q] at h;exact h.elim
   |some ns=>
    rw[q] at h
    obtain⟨h64,h⟩:=yG h
    simp only[Rep] at r1
    obtain⟨l,ws,rfl,e1,t⟩:=r1
    rw[Gz q] at t
    exact⟨F,l,ws,ns,rfl,fh,e1,t,h64,fun Da F' H' x rp=>h _ F' H' x rp⟩
  |[],_,h=>exact h.elim
  |[.non],_,h=>exact h.elim
  |[.bl _],_,h=>exact h.elim
  |[.int _],_,h=>exact h.elim
  |[.str _],_,h=>exact h.elim
  |[.tup _],_,h=>exact h.elim
  |[.scr _],_,h=>exact h.elim
  |[.raw _],_,h=>exact h.elim
  |[.exc _],_,h=>exact h.elim
  |[.dct _ _],_,h=>exact h.elim
  |a::_::_,_,h=>cases a <;> exact h.elim⟩
end
section
variable{X:Cx}{pos:Pos}{C:Addr}{c f x:Str}{i:Nat}
end
open PySem.W
section
variable{P:Program}{w:World}{K:Frag}{mg:Str→Option Value}{base:Heap}
end
noncomputable def flF:Fl→Rs (List D)
 |.rb i τ=>uk τ i
 |_=>.no
theorem _root_.oJ_{α:Type}{a b:α}(h:FD.Rs.ok a=FD.Rs.ok b):b=a:=(FD.Rs.ok.inj h).symm
theorem T6{τ:DS}{i:Nat}{ds:List D}(h:uk τ i=.ok ds):τ[i]?=some (some (.own ds)):=by
 unfold uk at h
 split at h
 ·replace h:=oJ_ h;subst h;assumption
 ·nomatch h
section
variable{P:Program}{w:World}{K:Frag}{mg:Str→Option Value}{base:Heap}
end
theorem yu{α:Type}{l:List (Option α)}{i:Nat}{a:α}(h:(l++[none])[i]?=some (some a)):l[i]?=some (some a):=by
 by_cases z:i<l.length
 ·rwa [List.getElem?_append_left z] at h
 ·rw[List.getElem?_append_right (by lia)] at h
  cases q:i-l.length with
  |zero=>rw[q] at h;simp at h
  |succ n=>rw[q] at h;simp at h
theorem ZX{α:Type}{l:List (Option α)}{i:Nat}{a:α}(h:l[i]?=some (some a)):(l++[none])[i]?=some (some a):=by
 rw[List.getElem?_append_left (List.getElem?_eq_some_iff.mp h).1];exact h
theorem J7{τ:DS}{i:Nat}{c:Str}(h:ObS (τ++[none])[i]? c):ObS τ[i]? c:=by
 rcases h with ⟨n,fs,h⟩|⟨fs,h⟩
 ·exact .inl ⟨n,fs,yu h⟩
 ·exact .inr ⟨fs,yu h⟩
theorem RS.pad{K:Frag}{B Z F H:Hp}{τ:DS}{σ:St}(R:RS K B Z F τ σ H):RS K B Z F (τ++[none]) (σ++[none]) H:=
 ⟨⟨R.rv.fh,by rw[List.length_append,List.length_append,R.rv.len];rfl,fun i d h=>by
   refine X11 (R.rv.val i d (yu h)) fun v h1 h2=>?_
   exact⟨v,ZX h1,h2⟩,fun i ds h=>by
   refine X21 (R.rv.own i ds (yu h)) fun a vs h1 h2=>?_
   exact⟨a,vs,ZX h1,h2⟩,fun i j ds es a hij h1 h2 h3 h4=>R.rv.dis i j ds es a hij (yu h1) (yu h2) (yu h3) (yu h4),R.rv.tt,
   ⟨fun i n c fs h=>by
    refine X11 (R.rv.ob.at_ i n c fs (yu h)) fun a h1 h2=>?_
    exact⟨a,ZX h1,h2⟩,fun i j n c c' fs a hij h1 h2 h3 h4=>R.rv.ob.dis i j n c c' fs a hij (yu h1) (J7 h2) (yu h3) (yu h4),fun i c fs h=>by
    refine X41 (R.rv.ob.rd i c fs (yu h)) fun a C dx vs h1 h2=>?_
    exact⟨a,C,dx,vs,ZX h1,h2⟩,fun i j n c c' fs a a' l hij h1 h2 h3 h4=>R.rv.ob.ll i j n c c' fs a a' l hij (yu h1) (J7 h2) (yu h3) (yu h4),fun i j c ds a l h1 h2 h3 h4=>R.rv.ob.lo i j c ds a l (J7 h1) (yu h2) (yu h3) (yu h4)⟩⟩,
  R.bh,R.zf,R.nb,fun i ds a h1 h2=>R.ob i ds a (yu h1) (yu h2),fun i n c fs a h1 h2=>R.oo i n c fs a (yu h1) (yu h2),fun a0 dx e1 e2 i n c fs h=>ZX (R.sf a0 dx e1 e2 i n c fs (yu h)),fun i c fs a h1 h2=>R.ro i c fs a (yu h1) (yu h2)⟩
section
variable{X:Cx}{pos:Pos}{e:Expr}{es:List Expr}{fe:FE}{ff:FA}{c m x:Str}{i k n h_:Nat}{ps:List Str}
noncomputable def W7(ff:FA):FS:=fun τ=>Fl.of (ff τ) fun ds=>.rb τ.length (τ++[some (.own ds)])
theorem UX(h:PDF X e ff):PDS X (.Return (some e) pos) (W7 ff):=
 PS.imp (VX h) fun E σ H z_=>by
  refine X41 z_ fun B Z F τ R h=>?_
  refine Y21 F τ R.rv ((Post.of h).imp fun ds g p vs F1 H1 x hp r=>?_)
  have R1:=(((R.ext x).pad).setO (i:=τ.length) hp r)
  have e1:(τ++[none]).set τ.length (some (.own ds))=τ++[some (.own ds)]:=by simp
  have e2:(σ++[none]).set τ.length (some (V.ref p))=σ++[some (.ref p)]:=by rw[R.rv.len];simp
  rw[e1,e2] at R1
  exact g _ _ F1 _ x.ff R1 (by rw[R.rv.len];simp)
end
theorem jY{H:Hp}{c f:Str}{v:V}{l:Addr}(h:l∈yD H c f v):∀{vs:List (Str×V)},vs.lookup f=some v→l∈zT H c vs
 |[],z=>by cases z
 | (g,w)::s,z=>by
  by_cases e:f=g
  ·subst e
   have:w=v:=by simpa[List.lookup] using z
   subst this
   exact ownL_cons.mpr (.inl h)
  ·have hb:(f==g)=false:=beq_eq_false_iff_ne.mpr e
   exact ownL_cons.mpr (.inr (jY h (by simpa[List.lookup,hb] using z)))
theorem Flds.chg{K:Frag}{F H H':Hp}{c f:Str}{d:D}{v:V}(nw:Fld1 K F H' c f d v):∀{fs:Fs} {vs:List (Str×V)},Flds K F H c fs vs→(zT H c vs).Nodup→vs.lookup f=some v →
  (∀l ws,l∈zT H c vs→l∉yD H c f v→H l=some (.lst ws)→H' l=some (.lst ws)) →
  Flds K F H' c (xH f d fs) vs∧(∀l,l∈zT H' c vs→l∈yD H' c f v∨(l∈zT H c vs∧l∉yD H c f v)) ∧
  ((yD H' c f v).Nodup→(∀l∈yD H' c f v,l∈yD H c f v∨l∉zT H c vs)→(zT H' c vs).Nodup)
 |[],[],_,_,e,_=>by cases e
 | (g,x)::t,(g',y)::s,q,nd,e,k=>by
  obtain⟨rfl,q2,q3⟩:=q
  refine X02 (ownL_nd.mp nd) fun n0 n2 n1=>?_
  unfold xH
  by_cases h:g=f
  ·subst h
   rw[if_pos rfl]
   have:y=v:=by simpa[List.lookup] using e
   subst this
   have kk:∀l2 ws2,l2∈zT H c s→H l2=some (.lst ws2)→H' l2=some (.lst ws2):=fun l2 ws2 hl e6=>k l2 ws2 (ownL_cons.mpr (.inr hl)) (fun z=>n1 l2 z hl) e6
   have es:=q3.same kk
   refine⟨⟨rfl,nw,q3.keep (Same.refl F) fun l2 ws2 hl e6 e7=>⟨kk l2 ws2 hl e6,e7⟩⟩,fun l hl=>?_,fun h1 h2=>?_⟩
   ·rcases ownL_cons.mp hl with z|z
    ·exact .inl z
    ·rw[es] at z;exact .inr ⟨ownL_cons.mpr (.inr z),fun y=>n1 l y z⟩
   ·refine ownL_nd.mpr ⟨h1,by rw[es];exact n2,fun l e1 e2=>?_⟩
    rw[es] at e2
    rcases h2 l e1 with z|z
    ·exact n1 l z e2
    ·exact z (ownL_cons.mpr (.inr e2))
  ·rw[if_neg h]
   have hb:(f==g)=false:=beq_eq_false_iff_ne.mpr fun z=>h z.symm
   have e':s.lookup f=some v:=by simpa[List.lookup,hb] using e
   refine X02 (Flds.chg nw q3 n2 e' fun l ws hl hn e6=>k l ws (ownL_cons.mpr (.inr hl)) hn e6) fun i1 i2 i3=>?_
   have ap:∀l,l∈yD H c g y→l∉yD H c f v:=fun l h1 h2=>n1 l h1 (jY h2 e')
   have kk:∀l2 ws2,l2∈yD H c g y→H l2=some (.lst ws2)→H' l2=some (.lst ws2):=fun l2 ws2 hl e6=>k l2 ws2 (ownL_cons.mpr (.inl hl)) (ap l2 hl) e6
   have es:=q2.same kk
   refine⟨⟨rfl,q2.keep (Same.refl F) fun l2 ws2 hl e6 e7=>⟨kk l2 ws2 hl e6,e7⟩,i1⟩,fun l hl=>?_,fun h1 h2=>?_⟩
   ·rcases ownL_cons.mp hl with z|z
    ·rw[es] at z;exact .inr ⟨ownL_cons.mpr (.inl z),ap l z⟩
    ·rcases i2 l z with w|⟨w1,w2⟩
     ·exact .inl w
     ·exact .inr ⟨ownL_cons.mpr (.inr w1),w2⟩
   ·refine ownL_nd.mpr ⟨by rw[es];exact n0,i3 h1 fun l e1=>?_,fun l e1 e2=>?_⟩
    ·rcases h2 l e1 with z|z
     ·exact .inl z
     ·exact .inr fun y=>z (ownL_cons.mpr (.inr y))
    ·rw[es] at e1
     rcases i2 l e2 with w|⟨w1,_⟩
     ·rcases h2 l w with z|z
      ·exact ap l e1 z
      ·exact z (ownL_cons.mpr (.inl e1))
     ·exact n1 l e1 w1
 |[],_::_,q,_,_,_=>q.elim
 |_::_,[],q,_,_,_=>q.elim
theorem RS.chg{K:Frag}{B Z F H H':Hp}{τ:DS}{σ:St}{i n:Nat}{c f:Str}{fs:Fs}{a C dx:Addr}{vs:List (Str×V)}{d:D}{v:V}(R:RS K B Z F τ σ H)(hi:τ[i]?=some (some (.obj n c fs)))(ha:σ[i]?=some (some (.ref a)))(he:H a=some (.ins C dx vs))(hl:vs.lookup f=some v)
  (kp:∀b u,b∉yD H c f v→H b=some u→H' b=some u) (nw:Fld1 K F H' c f d v) (nd:(yD H' c f v).Nodup) (fr:∀l∈yD H' c f v,l∈yD H c f v∨H l=none) (no:∀b x,H' b=some (.own x)→H b=some (.own x)) :
  RS K B Z F (τ.set i (some (.obj n c (xH f d fs)))) σ H':=by
 refine X11 (R.rv.ob.at_ i n c fs hi) fun a' q1 r81_=>?_;refine X35 r81_ fun C' dx' vs' q2 q3 q4 q5 q6 q7=>?_
 rw[ha] at q1;replace q1:=tI_ q1;subst q1
 rw[he] at q2;cases q2
 have isl:∀{b:Addr},b∈yD H c f v→F b=none∧∃ws,H b=some (.lst ws):=fun {b} h=>q5.own (jY h hl)
 have nl:∀{b:Addr} {u:HO},H b=some u→(∀ws,u≠.lst ws)→b∉yD H c f v:=fun {b u} e m z=>by
  refine X01 (isl z) fun _ r82_=>?_;refine X10 r82_ fun ws q=>?_
  rw[e] at q;replace q:=sJ_ q;subst q;exact m _ rfl
 refine X02 (q5.chg (H':=H') nw q7 hl fun l ws _ hn e=>kp l _ hn e) fun k1 k2 k3=>?_
 have he':H' a=some (.ins C dx vs):=kp a _ (nl he fun _ z=>nomatch z) he
 refine R.objset hi ha he (Same.refl F) (fun b o e=>?_) (R.rv.tt.step (fun _ _ e=>.inl e) (fun b o e m=>kp b o (nl e m) e) no) (fun b u _ h2 e=>.of (kp b u (fun z=>h2 (jY z hl)) e)) (fun b o e=>.inl e) ⟨C,dx,vs,he',q3,q4,k1,kp dx _ (nl q6 fun _ z=>nomatch z) q6,k3 nd fun l h=>?_⟩ fun l h=>?_
 ·refine kp b o (fun z=>?_) (R.rv.fh b o e)
  rw[(isl z).1] at e;nomatch e
 ·rcases fr l h with z|z
  ·exact .inl z
  ·refine .inr fun y=>?_
   refine X01 (q5.own y) fun _ r83_=>?_;refine X10 r83_ fun ws q=>?_
   rw[z] at q;nomatch q
 ·rw[Lof.ins he'] at h
  rcases k2 l h with z|⟨z,_⟩
  ·rcases fr l z with y|y
   ·exact .inl (jY y hl)
   ·exact .inr y
  ·exact .inl z
noncomputable def X6:List D→Option (List (List D))
 |[]=>some []
 |.lst ds::r=>(X6 r).map (ds :: ·)
 |_=>none
theorem v4:∀es:List (List D),X6 (es.map D.lst)=some es:=by
 intro l_
 induction l_ with
 |nil=>
  exact rfl
 |cons e r ih_=>
  show(X6 (r.map D.lst)).map (e :: ·)=_;rw[ih_];rfl
theorem Inn.len{K:Frag}{F H:Hp}:∀{es:List (List D)} {as:List Addr},Inn K F H es as→es.length=as.length
 |[],[],_=>rfl
 |_::_,_::_,q=>by rw[List.length_cons,List.length_cons,Inn.len q.2]
 |[],_::_,q=>q.elim
 |_::_,[],q=>q.elim
theorem Inn.at{K:Frag}{F H:Hp}{ds:List D}:∀{es:List (List D)} {as:List Addr} {k:Nat},Inn K F H es as→es[k]?=some ds→∃b ws,as[k]?=some b∧H b=some (.lst ws)∧F b=none∧Reps K F ds ws
 |[],_,_,_,e=>by simp at e
 |d0::_,b0::_,0,q,e=>by
  obtain⟨⟨ws,e1,e2,e3⟩,_⟩:=q
  have:d0=ds:=by simpa using e
  subst this
  exact⟨b0,ws,rfl,e1,e2,e3⟩
 |_::_,_::_,k+1,q,e=>by
  obtain⟨b,ws,h⟩:=Inn.at (k:=k) q.2 (by simpa using e)
  exact⟨b,ws,by simpa using h⟩
 |_::_,[],_,q,_=>q.elim
theorem Inn.chg{K:Frag}{F H:Hp}{ds:List D}{ws:List V}{b:Addr}(r:Reps K F ds ws):∀{es:List (List D)} {as:List Addr} {k:Nat},Inn K F H es as→as.Nodup→as[k]?=some b→Inn K F (upd H b (.lst ws)) (es.set k ds) as
 |[],[],_,_,_,e=>by simp at e
 |_::_,b0::_,0,q,nd,e=>by
  obtain⟨⟨ws0,e1,e2,e3⟩,q⟩:=q
  have:b0=b:=by simpa using e
  subst this
  refine⟨⟨ws,zp,e2,r⟩,q.keep (Same.refl F) fun l ws' hl h1 h2=>⟨?_,h2⟩⟩
  have:l≠b0:=fun z=>(List.nodup_cons.mp nd).1 (by rw[← z];exact hl)
  rw[zj this];exact h1
 |_::_,b0::s,k+1,q,nd,e=>by
  obtain⟨⟨ws0,e1,e2,e3⟩,q⟩:=q
  have hb:s[k]?=some b:=by simpa using e
  have:b0≠b:=fun z=>(List.nodup_cons.mp nd).1 (by rw[z];exact List.mem_of_getElem? hb)
  exact⟨⟨ws0,by rw[zj this];exact e1,e2,e3⟩,Inn.chg r q (List.nodup_cons.mp nd).2 hb⟩
 |[],_::_,_,q,_,_=>q.elim
 |_::_,[],_,q,_,_=>q.elim
theorem Inn.app{K:Frag}{F H:Hp}{ds:List D}{ws:List V}{b:Addr}(h1:H b=some (.lst ws))(h2:F b=none)(r:Reps K F ds ws):∀{es:List (List D)} {as:List Addr},Inn K F H es as→Inn K F H (es++[ds]) (as++[b])
 |[],[],_=>⟨⟨ws,h1,h2,r⟩,trivial⟩
 |_::_,_::_,q=>⟨q.1,Inn.app h1 h2 r q.2⟩
 |[],_::_,q=>q.elim
 |_::_,[],q=>q.elim
theorem Inn.pop{K:Frag}{F H:Hp}:∀{es:List (List D)} {as:List Addr},Inn K F H es as→Inn K F H es.dropLast as.dropLast
 |[],[],_=>trivial
 |[_],[_],_=>trivial
 |_::_::_,_::_::_,q=>⟨q.1,Inn.pop q.2⟩
 |[_],_::_::_,q=>q.2.elim
 |_::_::_,[_],q=>q.2.elim
 |[],_::_,q=>q.elim
 |_::_,[],q=>q.elim
noncomputable def WK(τ:DS)(i:Nat)(c f:Str):Rs (List (List D)):=(uz τ i c).bind fun fs=>match xX f fs with
 | some (.lst ds)=>match X6 ds with
  |some es=>.ok es
  |none=>.no
 |_=>.no
theorem fld2{K:Frag}{F H:Hp}{c f:Str}{d:D}{v:V}(ho:Tabs.own c f=false∧Tabs.own2 c f=true)(h:Fld1 K F H c f d v):Own2 K F H d v:=by
 unfold Fld1 at h
 rw[if_neg (by rw[ho.1];simp),if_pos ho.2] at h;exact h
theorem ux{H:Hp}{c f:Str}{l:Addr}{as:List Addr}(ho:Tabs.own c f=false∧Tabs.own2 c f=true)(h:H l=some (.lst (as.map V.ref))):yD H c f (.ref l)=l::as:=by
 unfold yD;simp only
 rw[if_neg (by rw[ho.1];simp),if_pos ho.2,v6 h,uH]
theorem Xk{X:Cx}{F H:Hp}{τ:DS}{σ:St}{i:Nat}{c f:Str}{P:List (List D)→Prop}(R:RV X.K F τ σ H)(ho:Tabs.own c f=false∧Tabs.own2 c f=true)(h:Ok X (WK τ i c f) P) :
  ∃es a C dx vs l as,σ[i]?=some (some (.ref a))∧H a=some (.ins C dx vs)∧nsIn X.K mainGlobals c=some (some (.ref C))∧vs.lookup f=some (.ref l)∧H l=some (.lst (as.map V.ref))∧F l=none∧Inn X.K F H es as∧P es:=by
 obtain⟨fs,a,C,dx,vs,h1,h2,h3,h4,h5⟩:=Z1 R h.bind
 have l:=h4.look (f:=f)
 cases q:xX f fs with
 |none=>rw[q] at h5;exact h5.elim
 |some d=>
  rw[q] at h5 l
  refine X11 l fun v l1 l2=>?_
  obtain⟨es,p,as,rfl,rfl,e3,e4,e5⟩:=fld2 ho l2
  simp only[v4] at h5
  exact⟨es,a,C,dx,vs,p,as,h1,h2,h3,l1,e3,e4,e5,h5⟩
noncomputable def Qi(τ:DS)(i:Nat)(c f:Str):Rs (Nat×Fs×List (List D)):=(v0 τ i c).bind fun p=>match xX f p.2 with
 | some (.lst ds)=>match X6 ds with
  |some es=>.ok (p.1,p.2,es)
  |none=>.no
 |_=>.no
theorem Xl{X:Cx}{F H:Hp}{τ:DS}{σ:St}{i:Nat}{c f:Str}{P:Nat×Fs×List (List D)→Prop}(R:RV X.K F τ σ H)(ho:Tabs.own c f=false∧Tabs.own2 c f=true)(h:Ok X (Qi τ i c f) P) :
  ∃n fs es a C dx vs l as,τ[i]?=some (some (.obj n c fs))∧σ[i]?=some (some (.ref a))∧H a=some (.ins C dx vs)∧nsIn X.K mainGlobals c=some (some (.ref C))∧vs.lookup f=some (.ref l)∧H l=some (.lst (as.map V.ref))∧F l=none∧Inn X.K F H es as∧(l::as).Nodup∧P (n,fs,es):=by
 refine X21 (um (X:=X) h.bind) fun n fs h1 h2=>?_
 refine X11 (R.ob.at_ i n c fs h1) fun a q1 r84_=>?_;refine X35 r84_ fun C dx vs q2 q3 q4 q5 q6 q7=>?_
 have l:=q5.look (f:=f)
 dsimp only at h2
 cases q:xX f fs with
 |none=>rw[q] at h2;exact h2.elim
 |some d=>
  rw[q] at h2 l
  refine X11 l fun v l1 l2=>?_
  obtain⟨es,p,as,rfl,rfl,e3,e4,e5⟩:=fld2 ho l2
  simp only[v4] at h2
  have nd:(p::as).Nodup:=by
   rw[← ux (H:=H) (l:=p) ho e3]
   have go:∀{vs:List (Str×V)},(zT H c vs).Nodup→vs.lookup f=some (.ref p)→(yD H c f (.ref p)).Nodup:=fun {vs}=>by
    induction vs with
    |nil=>intro _ z;cases z
    |cons y s ih=>
     obtain⟨g,w⟩:=y
     intro nd z
     refine X02 (ownL_nd.mp nd) fun n0 n2 _=>?_
     by_cases e:f=g
     ·subst e
      have:w=.ref p:=by simpa[List.lookup] using z
      subst this;exact n0
     ·have hb:(f==g)=false:=beq_eq_false_iff_ne.mpr e
      exact ih n2 (by simpa[List.lookup,hb] using z)
   exact go q7 l1
  exact⟨n,fs,es,a,C,dx,vs,p,as,h1,q1,q2,q4,l1,e3,e4,e5,nd,h2⟩
theorem RS.chg2{K:Frag}{B Z F H:Hp}{τ:DS}{σ:St}{i n k:Nat}{c f:Str}{fs:Fs}{a C dx l b:Addr}{vs:List (Str×V)}{es:List (List D)}{as:List Addr}{ds:List D}{ws ws':List V}(R:RS K B Z F τ σ H)(ho:Tabs.own c f=false∧Tabs.own2 c f=true)(hi:τ[i]?=some (some (.obj n c fs)))(ha:σ[i]?=some (some (.ref a)))(he:H a=some (.ins C dx vs))(hl:vs.lookup f=some (.ref l))
  (h5:H l=some (.lst (as.map V.ref))) (h6:F l=none) (h7:Inn K F H es as) (nd:(l::as).Nodup) (hb:as[k]?=some b) (hw:H b=some (.lst ws')) (r:Reps K F ds ws) :
  RS K B Z F (τ.set i (some (.obj n c (xH f (.lst ((es.set k ds).map D.lst)) fs)))) σ (upd H b (.lst ws)):=by
 obtain⟨nd1,nd2⟩:=List.nodup_cons.mp nd
 have hbm:b∈as:=List.mem_of_getElem? hb
 have hlb:l≠b:=fun z=>nd1 (by rw[z];exact hbm)
 have h5':upd H b (.lst ws) l=some (.lst (as.map V.ref)):=by rw[zj hlb];exact h5
 have e0:=ux ho h5
 have e1:=ux ho h5'
 refine R.chg hi ha he hl (fun x u hx e=>?_) ?_ (by rw[e1];exact nd) (fun x hx=>.inl (by rw[e0];rw[e1] at hx;exact hx)) (wv fun _ z=>nomatch z)
 ·have:x≠b:=fun z=>hx (by rw[e0,z];exact List.mem_cons_of_mem _ hbm)
  rw[zj this];exact e
 ·unfold Fld1
  rw[if_neg (by rw[ho.1];simp),if_pos ho.2]
  exact⟨es.set k ds,l,as,rfl,rfl,h5',h6,h7.chg r nd2 hb⟩
theorem RS.app2{K:Frag}{B Z F H:Hp}{τ:DS}{σ:St}{i n:Nat}{c f:Str}{fs:Fs}{a C dx l p:Addr}{vs:List (Str×V)}{es:List (List D)}{as:List Addr}{ds:List D}{ws:List V}(R:RS K B Z F τ σ H)(ho:Tabs.own c f=false∧Tabs.own2 c f=true)(hi:τ[i]?=some (some (.obj n c fs)))(ha:σ[i]?=some (some (.ref a)))(he:H a=some (.ins C dx vs))(hl:vs.lookup f=some (.ref l))
  (h5:H l=some (.lst (as.map V.ref))) (h6:F l=none) (h7:Inn K F H es as) (nd:(l::as).Nodup) (hp:H p=none) (r:Reps K F ds ws) :
  RS K B Z F (τ.set i (some (.obj n c (xH f (.lst ((es++[ds]).map D.lst)) fs)))) σ (upd (upd H p (.lst ws)) l (.lst ((as++[p]).map V.ref))):=by
 obtain⟨nd1,nd2⟩:=List.nodup_cons.mp nd
 have hlp:p≠l:=fun z=>by subst z;rw[hp] at h5;nomatch h5
 have hpa:p∉as:=fun z=>by
  refine X01 (h7.own z) fun _ r85_=>?_;refine X10 r85_ fun ws' q=>?_
  rw[hp] at q;nomatch q
 have hFp:=zF R.rv.fh hp
 have h5':upd (upd H p (.lst ws)) l (.lst ((as++[p]).map V.ref)) l=some (.lst ((as++[p]).map V.ref)):=zp
 have e0:=ux ho h5
 have e1:=ux ho h5'
 have kk:∀x u,x≠l→H x=some u→upd (upd H p (.lst ws)) l (.lst ((as++[p]).map V.ref)) x=some u:=fun x u h e=>by rw[zj h,zj (zC e hp)];exact e
 refine R.chg hi ha he hl (fun x u hx e=>kk x u (fun z=>hx (by rw[e0,z];exact List.mem_cons_self)) e) ?_ ?_ (fun x hx=>?_) ?_
 ·unfold Fld1
  rw[if_neg (by rw[ho.1];simp),if_pos ho.2]
  refine⟨es++[ds],l,as++[p],rfl,rfl,h5',h6,Inn.app (by rw[zj hlp];exact zp) hFp r (h7.keep (Same.refl F) fun x ws' hx y1 y2=>⟨kk x _ (fun z=>nd1 (by rw[← z];exact hx)) y1,y2⟩)⟩
 ·rw[e1]
  refine List.nodup_cons.mpr ⟨fun z=>?_,List.nodup_append.mpr ⟨nd2,by simp,fun x hx y hy=>by
   have:y=p:=by simpa using hy
   subst this;exact fun z=>hpa (by rw[← z];exact hx)⟩⟩
  rcases List.mem_append.mp z with z|z
  ·exact nd1 z
  ·exact hlp (by simpa using z:l=p).symm
 ·rw[e1] at hx
  rw[e0]
  rcases List.mem_cons.mp hx with z|z
  ·exact .inl (by rw[z];exact List.mem_cons_self)
  ·rcases List.mem_append.mp z with z|z
   ·exact .inl (List.mem_cons_of_mem _ z)
   ·have:x=p:=by simpa using z
    exact .inr (by rw[this];exact hp)
 ·exact fun b x e=>wv (o:=.lst ws) (p:=p) (fun _ z=>nomatch z) b x (wv (o:=.lst ((as++[p]).map V.ref)) (p:=l) (fun _ z=>nomatch z) b x e)
theorem RS.pop2{K:Frag}{B Z F H:Hp}{τ:DS}{σ:St}{i n:Nat}{c f:Str}{fs:Fs}{a C dx l:Addr}{vs:List (Str×V)}{es:List (List D)}{as:List Addr}(R:RS K B Z F τ σ H)(ho:Tabs.own c f=false∧Tabs.own2 c f=true)(hi:τ[i]?=some (some (.obj n c fs)))(ha:σ[i]?=some (some (.ref a)))(he:H a=some (.ins C dx vs))(hl:vs.lookup f=some (.ref l))
  (h5:H l=some (.lst (as.map V.ref))) (h6:F l=none) (h7:Inn K F H es as) (nd:(l::as).Nodup) :
  RS K B Z F (τ.set i (some (.obj n c (xH f (.lst (es.dropLast.map D.lst)) fs)))) σ (upd H l (.lst (as.dropLast.map V.ref))):=by
 obtain⟨nd1,nd2⟩:=List.nodup_cons.mp nd
 have h5':upd H l (.lst (as.dropLast.map V.ref)) l=some (.lst (as.dropLast.map V.ref)):=zp
 have e0:=ux ho h5
 have e1:=ux ho h5'
 have sub:∀x∈as.dropLast,x∈as:=fun x hx=>List.dropLast_subset as hx
 refine R.chg hi ha he hl (fun x u hx e=>?_) ?_ ?_ (fun x hx=>?_) (wv fun _ z=>nomatch z)
 ·have:x≠l:=fun z=>hx (by rw[e0,z];exact List.mem_cons_self)
  rw[zj this];exact e
 ·unfold Fld1
  rw[if_neg (by rw[ho.1];simp),if_pos ho.2]
  exact⟨es.dropLast,l,as.dropLast,rfl,rfl,h5',h6,h7.pop.keep (Same.refl F) fun x ws' hx y1 y2=>⟨by rw[zj fun z=>nd1 (by rw[← z];exact sub x hx)];exact y1,y2⟩⟩
 ·rw[e1]
  exact List.nodup_cons.mpr ⟨fun z=>nd1 (sub l z),(List.dropLast_sublist as).nodup nd2⟩
 ·rw[e1] at hx
  rw[e0]
  rcases List.mem_cons.mp hx with z|z
  ·exact .inl (by rw[z];exact List.mem_cons_self)
  ·exact .inl (List.mem_cons_of_mem _ (sub x z))
noncomputable def at2(es:List (List D))(k:Int):Option (Nat×List D):=(ixN es.length k).bind fun j=>(es[j]?).map fun ds=>(j,ds)
theorem Ws{K:Frag}{F H:Hp}{es:List (List D)}{as:List Addr}{k:Int}{j:Nat}{ds:List D}(h7:Inn K F H es as)(h:at2 es k=some (j,ds)) :
  ∃b ws,as[j]?=some b∧atI (as.map V.ref) k=some (.ref b)∧H b=some (.lst ws)∧F b=none∧Reps K F ds ws:=by
 unfold at2 at h
 cases q:ixN es.length k with
 |none=>rw[q] at h;cases h
 |some i=>
  rw[q,Option.bind_some] at h
  cases q2:es[i]? with
  |none=>rw[q2] at h;cases h
  |some e=>
   rw[q2] at h
   cases h
   refine X23 (h7.at q2) fun b ws h1 h2 h3 h4=>?_
   refine⟨b,ws,h1,?_,h2,h3,h4⟩
   unfold atI
   rw[List.length_map,← h7.len,q]
   simp[h1]
section
variable{X:Cx}{pos:Pos}{e ix:Expr}{fe fi:FE}{C:Addr}{c f x:Str}{i:Nat}
noncomputable def Vy(i:Nat)(c f:Str)(fi:FE):FE:=fun τ=>(WK τ i c f).bind fun es=>(fi τ).bind fun k=>match k with
 |.int k=>match at2 es k with
  |some p=>.ok (.int p.2.length)
  |none=>.no
 |_=>.no
theorem U2{p1 p2 p3 p:Pos}(hx:PE X (.Name x p1) (xf i))(hC:nsIn X.K mainGlobals c=some (some (.ref C)))(cl:Cls X.K C)(na:NoAttr X.K C f)(hi:PDE X ix fi)(hg:Gl X "len")(hm:X.mg "len" = none)(ho:Tabs.own c f=false∧Tabs.own2 c f=true)(hs:vU ix:=by intro _ _;rfl)
  (he:starEach [.Subscript (.Attribute (.Name x p1) f p2) ix p3] X.env=[(false,eval (.Subscript (.Attribute (.Name x p1) f p2) ix p3) X.env)]:=by rfl) (hpl:(backTo pos (starEach [] X.env)).any (·.1)=false:=by rfl):PDE X (.Call (.Name "len" p) [.Subscript (.Attribute (.Name x p1) f p2) ix p3] [] pos) (Vy i c f fi):=
 PE.imp (pe_callB call_len_seq hg hm PySem.boot_len (xD (YQ ix_list (jk hx) hi hs) vb (by rw[he];rfl)) (he:=by rw[he];rfl) (hpl:=hpl)) fun σ H Q z_=>by
  refine X21 z_ fun F τ R h=>?_
  obtain⟨es,a,C',dx,vs,l,as,h1,h2,h3,h4,h5,h6,h7,h8⟩:=Xk R ho (Ok.bind h)
  obtain rfl:C=C':=by rw[hC] at h3;replace h3:=PySem.Value.ref.inj (Option.some.inj (Option.some.inj h3));subst h3;rfl
  refine⟨_,h1,a,C,dx,vs,.ref l,rfl,h2,cl,na,h4,?_⟩
  refine tE.of R h8.bind fun k w F2 H2 g2 x2 R2 r2=>?_
  cases k with
  |int k=>
   simp only[Rep] at r2
   simp only at g2
   cases q:at2 es k with
   |none=>rw[q] at g2;exact g2.elim
   |some jd=>
    obtain⟨j,ds⟩:=jd
    rw[q] at g2
    obtain⟨b,ws,z1,z2,z3,z4,z5⟩:=Ws h7 q
    refine⟨l,_,k,.ref b,rfl,r2,SqL.of (x2.hh _ _ h5),z2,b,ws,rfl,.inl (SqL.of (x2.hh _ _ z3)),?_⟩
    rw[← z5.length]
    exact g2 (.int ds.length) F2 H2 x2 (by simp only[Rep])
  |_=>exact g2.elim
noncomputable def augF(i:Nat)(c f:Str)(p:Nat×Fs)(τ:DS):D→D→Fl
 |.int a,.int b=>if p.2.length<1000 then .nx (τ.set i (some (.obj p.1 c (xH f (.int (a+b)) p.2)))) else .no
 |_,_=>.no
noncomputable def W8(i:Nat)(c f:Str)(fe:FE):FS:=fun τ=>Fl.of (v0 τ i c) fun p=>match xX f p.2 with
 |some d=>Fl.of (fe τ) (augF i c f p τ d)
 |none=>.no
theorem TV{p1 tpos:Pos}(hx:PE X (.Name x p1) (xf i))(hC:nsIn X.K mainGlobals c=some (some (.ref C)))(cl:Cls X.K C)(na:NoAttr X.K C f)(he:PDE X e fe)(ho:Tabs.own c f=false∧Tabs.own2 c f=false) :
  PDS X (.AugAssign (.Attribute (.Name x p1) f tpos) .Add e pos) (W8 i c f fe):=
 PS.imp (Va hx he LO) fun E σ H z_=>by
  refine X41 z_ fun B Z F τ R h=>?_
  refine X21 (um (X:=X) (Post.of h)) fun n fs h1 h2=>?_
  refine X11 (R.rv.ob.at_ i n c fs h1) fun a q1 r86_=>?_;refine X35 r86_ fun C' dx vs q2 q3 q4 q5 q6 q7=>?_
  rw[hC] at q4
  obtain rfl:C=C':=by replace q4:=PySem.Value.ref.inj (Option.some.inj (Option.some.inj q4));subst q4;rfl
  have l:=q5.look (f:=f)
  dsimp only at h2
  cases q:xX f fs with
  |none=>rw[q] at h2;exact h2.elim
  |some d0=>
   rw[q] at h2 l
   refine X11 l fun v l1 l2=>?_
   unfold Fld1 at l2
   rw[if_neg (by rw[ho.1];simp),if_neg (by rw[ho.2];simp)] at l2
   refine⟨_,q1,a,C,dx,vs,v,rfl,q2,cl,na,l1,?_⟩
   refine tE.at R (Post.of h2) fun d y F1 H1 g x R1 r=>?_
   unfold augF at g
   cases d0 with
   |int k0=>
    cases d with
    |int k1=>
     simp only[Rep] at r l2
     simp only at g
     by_cases z:fs.length<1000
     ·rw[if_pos z] at g
      exact⟨k0,k1,l2,r,dx,vs,x.hh _ _ q2,by rw[← q5.length];exact z,g σ F1 _ x.ff (R1.attV h1 q1 (x.hh _ _ q2) ho (by simp only[Rep]))⟩
     ·rw[if_neg z] at g;exact g.elim
    |_=>exact g.elim
   |_=>exact g.elim
end
section
variable{X:Cx}{pos:Pos}{e ix:Expr}{fe fi:FE}{ff:FA}{C:Addr}{c f x:Str}{i:Nat}
noncomputable def app2(i:Nat)(c f:Str)(fe:FE)(p:Nat×Fs×List (List D))(τ:DS):D→Fl
 |.int k=>match at2 p.2.2 k with
  |some q=>Fl.of (fe τ) fun d=>if q.2.length<sizeLine then .nx (τ.set i (some (.obj p.1 c (xH f (.lst ((p.2.2.set q.1 (q.2++[d])).map D.lst)) p.2.1)))) else .no
  |none=>.no
 |_=>.no
noncomputable def XB(i:Nat)(c f:Str)(fi fe:FE):FS:=fun τ=>Fl.of (Qi τ i c f) fun p=>Fl.of (fi τ) (app2 i c f fe p τ)
theorem UZ{p1 p2 p3 apos cpos:Pos}(hx:PE X (.Name x p1) (xf i))(hC:nsIn X.K mainGlobals c=some (some (.ref C)))(cl:Cls X.K C)(na:NoAttr X.K C f)(hi:PDE X ix fi)(he:PDE X e fe)(ho:Tabs.own c f=false∧Tabs.own2 c f=true)(hsx:vU ix:=by intro _ _;rfl)
  (hfew:((backTo cpos (starEach [e] X.env)).all (fun x=>!x.1)&&(backToKw cpos (keywordEach [] X.env)).all (fun x=>x.1.isSome)
   && decide ([e].length+([]:List Keyword).length+(if ([]:List Keyword).isEmpty then 0 else 1)<30))=true:=by rfl)
  (hline:(apos.endLine==cpos.line)=true:=by rfl) (hs:starEach [e] X.env=[(false,eval e X.env)]:=by rfl) (hplain:(backTo cpos (starEach [] X.env)).any (·.1)=false:=by rfl)
  (hbase:attributeBase (.Subscript (.Attribute (.Name x p1) f p2) ix p3) "append" X.env (eval (.Subscript (.Attribute (.Name x p1) f p2) ix p3) X.env)=eval (.Subscript (.Attribute (.Name x p1) f p2) ix p3) X.env:=by rfl)
  (hsw:swapsWith (.Call (.Attribute (.Subscript (.Attribute (.Name x p1) f p2) ix p3) "append" apos) [e] [] cpos) none pos.line X.env=pure false:=by rfl) :
  PDS X (.Expr (.Call (.Attribute (.Subscript (.Attribute (.Name x p1) f p2) ix p3) "append" apos) [e] [] cpos) pos) (XB i c f fi fe):=
 PS.imp (jT (Q5 PySem.F.plainAttrs_list PySem.F.slot_list_append PySem.F.type_list_append uL (YQ ix_list (jk hx) hi hsx) (xD he vb (by rw[hs];rfl)) hbase hfew hline (by rw[hs];rfl) hplain) hsw) fun E σ H z_=>by
  refine X41 z_ fun B Z F τ R h=>?_
  obtain⟨n,fs,es,a,C',dx,vs,l,as,h0,h1,h2,h3,h4,h5,h6,h7,nd,h8⟩:=Xl R.rv ho (Post.of h)
  obtain rfl:C=C':=by rw[hC] at h3;replace h3:=PySem.Value.ref.inj (Option.some.inj (Option.some.inj h3));subst h3;rfl
  refine⟨_,h1,a,C,dx,vs,.ref l,rfl,h2,cl,na,h4,?_⟩
  refine tE.at R (Post.of h8) fun k w F1 H1 g1 x1 R1 r1=>?_
  cases k with
  |int k=>
   simp only[Rep] at r1
   unfold app2 at g1
   dsimp only at g1
   cases q:at2 es k with
   |none=>rw[q] at g1;exact g1.elim
   |some jd=>
    obtain⟨j,ds⟩:=jd
    rw[q] at g1
    obtain⟨b,ws,z1,z2,z3,z4,z5⟩:=Ws h7 q
    refine⟨l,_,k,.ref b,rfl,r1,SqL.of (x1.hh _ _ h5),z2,.inl ⟨rfl,ws,SqL.of (x1.hh _ _ z3)⟩,?_⟩
    refine tE.at R1 (Post.of g1) fun d v F2 H2 g2 x2 R2 r2=>?_
    have x12:=x1.trans x2
    have hF:∀{b:Addr} {u:HO},H b=some u→F b=none→F2 b=none:=fun {b u} y1 y2=>by
     cases q:F2 b with
     |none=>rfl
     |some w=>
      rcases x12.nw b w q with z|z
      ·rw[y2] at z;nomatch z
      ·rw[y1] at z;nomatch z
    by_cases z:ds.length<sizeLine
    ·dsimp only at g2
     rw[if_pos z] at g2
     refine⟨b,ws,v,rfl,rfl,x12.hh _ _ z3,by rw[← z5.length];exact z,?_⟩
     exact g2 σ F2 _ x12.ff (R2.chg2 ho h0 h1 (x12.hh _ _ h2) h4 (x12.hh _ _ h5) (hF h5 h6) (h7.keep x12.ff fun y ws' _ y1 y2=>⟨x12.hh _ _ y1,hF y1 y2⟩) nd z1 (x12.hh _ _ z3) ((z5.mono x12.ff).append (Reps.cons r2 Reps.nil)))
    ·dsimp only at g2
     rw[if_neg z] at g2;exact g2.elim
  |_=>exact g1.elim
noncomputable def QT(i:Nat)(c f:Str):FS:=fun τ=>Fl.of (Qi τ i c f) fun p=>if p.2.2=[] then .no else .nx (τ.set i (some (.obj p.1 c (xH f (.lst (p.2.2.dropLast.map D.lst)) p.2.1))))
theorem TQ{p1 p2 apos cpos:Pos}(hx:PE X (.Name x p1) (xf i))(hC:nsIn X.K mainGlobals c=some (some (.ref C)))(cl:Cls X.K C)(na:NoAttr X.K C f)(ho:Tabs.own c f=false∧Tabs.own2 c f=true)
  (hbase:attributeBase (.Attribute (.Name x p1) f p2) "pop" X.env (eval (.Attribute (.Name x p1) f p2) X.env)=eval (.Attribute (.Name x p1) f p2) X.env:=by rfl) (hline:(apos.endLine==cpos.line)=true:=by rfl)
  (hsw:swapsWith (.Call (.Attribute (.Attribute (.Name x p1) f p2) "pop" apos) [] [] cpos) none pos.line X.env=pure false:=by rfl) :
  PDS X (.Expr (.Call (.Attribute (.Attribute (.Name x p1) f p2) "pop" apos) [] [] cpos) pos) (QT i c f):=
 PS.imp (jT (TM PySem.F.plainAttrs_list PySem.F.slot_list_pop PySem.F.type_list_pop zr9 (jk hx) hbase hline) hsw) fun E σ H z_=>by
  refine X41 z_ fun B Z F τ R h=>?_
  obtain⟨n,fs,es,a,C',dx,vs,l,as,h0,h1,h2,h3,h4,h5,h6,h7,nd,h8⟩:=Xl R.rv ho (Post.of h)
  obtain rfl:C=C':=by rw[hC] at h3;replace h3:=PySem.Value.ref.inj (Option.some.inj (Option.some.inj h3));subst h3;rfl
  dsimp only at h8
  by_cases z:es=[]
  ·rw[if_pos z] at h8;exact h8.elim
  ·rw[if_neg z] at h8
   have hl:as.length-1<as.length:=by
    have:=h7.len
    have:es.length≠0:=fun y=>z (List.length_eq_zero_iff.mp y)
    lia
   refine⟨_,h1,a,C,dx,vs,.ref l,rfl,h2,cl,na,h4,.inl ⟨rfl,_,SqL.of h5⟩,l,as.map V.ref,.ref as[as.length-1],rfl,rfl,h5,by simp[hl],?_⟩
   rw[← List.map_dropLast]
   exact h8 σ F _ (Same.refl F) (R.pop2 ho h0 h1 h2 h4 h5 h6 h7 nd)
end
theorem jW{H:Hp}{c f:Str}{v:V}{l:Addr}:∀{vs:List (Str×V)},l∈zT H c (yU f v vs)→l∈yD H c f v∨l∈zT H c vs
 |[],h=>ownL_cons.mp h
 | (g,x)::r,h=>by
  rw[show yU f v ((g,x)::r)=(if g=f then (g,v)::r else (g,x)::yU f v r) from rfl] at h
  by_cases z:g=f
  ·rw[if_pos z] at h
   rcases ownL_cons.mp h with e|e
   ·subst z;exact .inl e
   ·exact .inr (ownL_cons.mpr (.inr e))
  ·rw[if_neg z] at h
   rcases ownL_cons.mp h with e|e
   ·exact .inr (ownL_cons.mpr (.inl e))
   ·rcases jW e with e|e
    ·exact .inl e
    ·exact .inr (ownL_cons.mpr (.inr e))
theorem u6{H:Hp}{c f:Str}{v:V}(hv:(yD H c f v).Nodup):∀{vs:List (Str×V)},(zT H c vs).Nodup→(∀l∈yD H c f v,l∉zT H c vs)→(zT H c (yU f v vs)).Nodup
 |[],_,_=>ownL_nd.mpr ⟨hv,(show([]:List Addr).Nodup from List.nodup_nil),fun _ _ h=>(by cases h)⟩
 | (g,x)::r,h,hp=>by
  rw[show yU f v ((g,x)::r)=(if g=f then (g,v)::r else (g,x)::yU f v r) from rfl]
  refine X02 (ownL_nd.mp h) fun h0 h2 h1=>?_
  have hp2:∀l∈yD H c f v,l∉zT H c r:=fun l hl z=>hp l hl (ownL_cons.mpr (.inr z))
  by_cases z:g=f
  ·subst z
   rw[if_pos rfl]
   exact ownL_nd.mpr ⟨hv,h2,hp2⟩
  ·rw[if_neg z]
   refine ownL_nd.mpr ⟨h0,u6 hv h2 hp2,fun l e1 hm=>?_⟩
   rcases jW hm with e|e
   ·exact hp l e (ownL_cons.mpr (.inl e1))
   ·exact h1 l e1 e
theorem RS.new2{K:Frag}{B Z F H H':Hp}{τ:DS}{σ:St}{i n:Nat}{c f:Str}{fs:Fs}{a C dx p:Addr}{vs:List (Str×V)}{es:List (List D)}{as:List Addr}(R:RS K B Z F τ σ H)(ho:Tabs.own c f=false∧Tabs.own2 c f=true)(hi:τ[i]?=some (some (.obj n c fs)))(ha:σ[i]?=some (some (.ref a)))(he:H a=some (.ins C dx vs))
  (he':H' a=some (.ins C dx (yU f (.ref p) vs))) (kp:∀b u,b≠a→H b=some u→H' b=some u) (hp:H p=none) (has:∀b∈as,H b=none) (h5:H' p=some (.lst (as.map V.ref))) (h7:Inn K F H' es as) (nd:(p::as).Nodup)
  (no:∀b x,H' b=some (.own x)→H b=some (.own x)) :
  RS K B Z F (τ.set i (some (.obj n c (xH f (.lst (es.map D.lst)) fs)))) σ H':=by
 refine X11 (R.rv.ob.at_ i n c fs hi) fun a' q1 r87_=>?_;refine X35 r87_ fun C' dx' vs' q2 q3 q4 q5 q6 q7=>?_
 rw[ha] at q1;replace q1:=tI_ q1;subst q1
 rw[he] at q2;cases q2
 have hd:dx≠a:=fun z=>by subst z;rw[he] at q6;nomatch q6
 have hFp:=zF R.rv.fh hp
 have kl:∀l ws,l∈zT H c vs→H l=some (.lst ws)→H' l=some (.lst ws):=fun l ws _ e1=>kp l _ (fun z=>by subst z;rw[he] at e1;nomatch e1) e1
 have sm:zT H' c vs=zT H c vs:=q5.same kl
 have e1:=ux ho h5
 have nw:∀l∈yD H' c f (.ref p),H l=none:=fun l hl=>by
  rw[e1] at hl
  rcases List.mem_cons.mp hl with z|z
  ·rw[z];exact hp
  ·exact has l z
 have tt:TbT F H':=⟨fun r hr=>(R.rv.tt.1 r hr).stepI fun b o e m=>kp b o (fun z=>by subst z;rw[he] at e;replace e:=sI_ e;subst e;exact m _ _ _ rfl) e,fun d b e=>by
  obtain⟨C',dx',vs'',h⟩:=R.rv.tt.2 d b (no d b e)
  by_cases z:b=a
  ·subst z;exact⟨C,dx,_,he'⟩
  ·exact⟨C',dx',vs'',kp b _ z h⟩⟩
 refine R.objset hi ha he (Same.refl F) (fun b o e=>?_) tt (fun b u h1 _ e=>.of (kp b u h1 e)) (fun b o e=>.inl e) ⟨C,dx,yU f (.ref p) vs,he',q3,q4,?_,kp dx _ hd q6,u6 (by rw[e1];exact nd) (by rw[sm];exact q7) fun l hl z=>?_⟩ fun l hl=>?_
 ·exact kp b o (fun z=>by subst z;rw[q3] at e;nomatch e) (R.rv.fh b o e)
 ·exact(q5.keep (H':=H') (Same.refl F) fun l ws hl y1 y2=>⟨kl l ws hl y1,y2⟩).put (by unfold Fld1;rw[if_neg (by rw[ho.1];simp),if_pos ho.2];exact⟨es,p,as,rfl,rfl,h5,hFp,h7⟩)
 ·rw[sm] at z
  refine X01 (q5.own z) fun _ r88_=>?_;refine X10 r88_ fun ws q=>?_
  rw[nw l hl] at q;nomatch q
 ·rw[Lof.ins he'] at hl
  rcases jW hl with z|z
  ·exact .inr (nw l z)
  ·rw[sm] at z;exact .inl z
section
variable{X:Cx}{pos:Pos}{e ix:Expr}{fe fi:FE}{ff:FA}{C:Addr}{c f x:Str}{i:Nat}
noncomputable def Uo(i:Nat)(c f:Str)(fi:FE):FA:=fun τ=>(WK τ i c f).bind fun es=>(fi τ).bind fun k=>match k with
 |.int k=>match at2 es k with
  |some p=>.ok p.2
  |none=>.no
 |_=>.no
theorem Mj{p p1 p2 p3:Pos}(hx:PE X (.Name x p1) (xf i))(hC:nsIn X.K mainGlobals c=some (some (.ref C)))(cl:Cls X.K C)(na:NoAttr X.K C f)(hi:PDE X ix fi)(hg:Gl X "list")(hm:X.mg "list" = none)(ho:Tabs.own c f=false∧Tabs.own2 c f=true)(hs:vU ix:=by intro _ _;rfl)
  (he:starEach [.Subscript (.Attribute (.Name x p1) f p2) ix p3] X.env=[(false,eval (.Subscript (.Attribute (.Name x p1) f p2) ix p3) X.env)]:=by rfl) (hpl:(backTo pos (starEach [] X.env)).any (·.1)=false:=by rfl):PDF X (.Call (.Name "list" p) [.Subscript (.Attribute (.Name x p1) f p2) ix p3] [] pos) (Uo i c f fi):=
 PE.imp (L2.pe_callTy Yi hg hm boot_list (xD (YQ ix_list (jk hx) hi hs) vb (by rw[he];rfl)) (by decide) (by decide) (by rw[he];rfl) hpl) fun σ H Q z_=>by
  refine X21 z_ fun F τ R h=>?_
  obtain⟨es,a,C',dx,vs,l,as,h1,h2,h3,h4,h5,h6,h7,h8⟩:=Xk R ho (Ok.bind h)
  obtain rfl:C=C':=by rw[hC] at h3;replace h3:=PySem.Value.ref.inj (Option.some.inj (Option.some.inj h3));subst h3;rfl
  refine⟨_,h1,a,C,dx,vs,.ref l,rfl,h2,cl,na,h4,?_⟩
  refine tE.of R h8.bind fun k w F2 H2 g2 x2 R2 r2=>?_
  cases k with
  |int k=>
   simp only[Rep] at r2
   simp only at g2
   cases q:at2 es k with
   |none=>rw[q] at g2;exact g2.elim
   |some jd=>
    obtain⟨j,ds⟩:=jd
    rw[q] at g2
    obtain⟨b,ws,z1,z2,z3,z4,z5⟩:=Ws h7 q
    exact⟨l,_,k,.ref b,rfl,r2,SqL.of (x2.hh _ _ h5),z2,b,ws,rfl,.inl (SqL.of (x2.hh _ _ z3)),fun p hp=>g2 p ws F2 H2 x2 hp (z5.mono x2.ff)⟩
  |_=>exact g2.elim
noncomputable def QU(i:Nat)(c f:Str)(ff:FA):FS:=fun τ=>Fl.of (ff τ) fun ds=>Fl.of (v0 τ i c) fun p=>if p.2.length<1000 then .nx (τ.set i (some (.obj p.1 c (xH f (.lst [.lst ds]) p.2)))) else .no
theorem TR{p1 p2 pos':Pos}(hx:PE X (.Name x p1) (xf i))(hC:nsIn X.K mainGlobals c=some (some (.ref C)))(cl:Cls X.K C)(na:NoAttr X.K C f)(he:PDF X e ff)(ho:Tabs.own c f=false∧Tabs.own2 c f=true)(hst:starEach [e] X.env=(false,eval e X.env)::starEach [] X.env:=by rfl)
  (hs:swapsWith (.List [e] p2) (some (.Attribute (.Name x p1) f pos')) pos.line X.env=pure false:=by rfl):PDS X (.Assign [.Attribute (.Name x p1) f pos'] (.List [e] p2) pos) (QU i c f ff):=
 PS.imp (VY hx (J2 (xD he vb hst)) hs) fun E σ H z_=>by
  refine X41 z_ fun B Z F τ R h=>?_
  refine Y21 F τ R.rv (h.of.imp fun ds g q ws F1 H1 x hq r=>?_)
  have R1:=R.ext x
  refine X21 (um (X:=X) (Post.of g)) fun n fs h1 h2=>?_
  refine X11 (R1.rv.ob.at_ i n c fs h1) fun a q1 r89_=>?_;refine X34 r89_ fun C' dx vs q2 q3 q4 q5 q6=>?_
  rw[hC] at q4
  obtain rfl:C=C':=by replace q4:=PySem.Value.ref.inj (Option.some.inj (Option.some.inj q4));subst q4;rfl
  have hqa:q≠a:=fun z=>by subst z;rw[q2] at hq;nomatch hq
  refine⟨Nat.le_trans (show 1≤1 from Nat.le_refl _) (by rw[sizeLine_eq];decide),fun p hp=>?_⟩
  have hpq:p≠q:=fun z=>by subst z;rw[zp] at hp;nomatch hp
  have hp1:H1 p=none:=by rw[zj hpq] at hp;exact hp
  have hpa:p≠a:=fun z=>by subst z;rw[q2] at hp1;nomatch hp1
  have ea:upd (upd H1 q (.lst ws)) p (.lst [.ref q]) a=some (.ins C dx vs):=by rw[zj (Ne.symm hpa),zj (Ne.symm hqa)];exact q2
  dsimp only at h2
  by_cases z:fs.length<1000
  ·rw[if_pos z] at h2
   refine⟨_,q1,a,C,dx,vs,rfl,ea,cl,na,by rw[← q5.length];exact z,h2 σ F1 _ x.ff ?_⟩
   refine R1.new2 (es:=[ds]) (as:=[q]) (p:=p) ho h1 q1 q2 zp (fun b u y1 y2=>?_) hp1 (fun b hb=>?_) ?_ ⟨⟨ws,?_,zF R1.rv.fh hq,r⟩,trivial⟩ ?_ (fun b y e=>?_)
   ·rw[zj y1,zj (zC y2 hp1),zj (zC y2 hq)];exact y2
   ·have:b=q:=by simpa using hb
    rw[this];exact hq
   ·rw[zj hpa];exact zp
   ·rw[zj hqa,zj (Ne.symm hpq)];exact zp
   ·simp[hpq]
   ·exact wv (o:=.lst ws) (p:=q) (fun _ z=>nomatch z) b y (wv (o:=.lst [.ref q]) (p:=p) (fun _ z=>nomatch z) b y (wv (o:=.ins C dx (yU f (.ref p) vs)) (p:=a) (fun _ z=>nomatch z) b y e))
  ·rw[if_neg z] at h2;exact h2.elim
end
noncomputable def spN(K:Frag)(n:Nat)(g:List D→Rs (List D)):Sp:=fun vs H Q E=>vs.length=n∧∃ds F,Same F H∧TbT F H∧Reps K F ds vs∧match g ds with
 |.ok es=>∀p xs F' H',Ext F H F' H'→H' p=none→Reps K F' es xs→Q (.ref p) (upd H' p (.lst xs))
 |_=>False
noncomputable def runN(N:Nat)(fb:FS)(ds:List D):Rs (List D):=flF (fb (z0 N ds))
section
variable{P:Program}{w:World}{K:Frag}{mg:Str→Option Value}{base:Heap}
theorem fnN{x qual:Str}{st:Stmt}{f:Addr}{fd:FuncData}{N ps:List Str}{k n:Nat}{fb:FS}(F:Fun K x qual st f fd)(S:zD N ps (zh st))(hn:ps.length=n)
  (hbody:∀(cdv:Value) (A:Around) (outer:List Env) (s:Shared) (H:Hp) (E:XK),Room k (A.deeper (envOfC qual (zh st) s.heap.objs.size f cdv)) →
   uc (jJ CX0 P w K mg base N qual (zh st) f cdv A outer s H E).nox (zx st) fb):FnOk P w K mg base CX0 (k+1) f fd ps (spN K n (runN N.length fb)):=by
 refine F.ok S (fun vs H Q E h=>by rw[hn];exact h.1) fun cdv A outer s H vs Q E hr h=>⟨_,hbody cdv A outer s H E hr,?_⟩
 obtain⟨hl,ds0,Fz,fh,tt,r,h⟩:=h
 refine Y41 H Fz Fz (z0 N.length ds0) (XC fh tt r) ?_
 unfold runN at h
 cases q:fb (z0 N.length ds0) with
 |rb i τ=>
  rw[q] at h
  cases z:uk τ i with
  |ok ds=>
   simp only[flF,z] at h
   have zz:=T6 z
   intro v σ F' H' ff RR e
   refine X23 (RR.rv.own i ds zz) fun p xs p1 p2 p3 p4=>?_
   rw[p1] at e;replace e:=uI_ e;subst e
   have pb:=RR.ob i ds p zz p1
   have x:Ext Fz H F' (xC H' p):=⟨RR.zf,fun c o e=>by
     have n:c≠p:=fun z=>by subst z;rw[pb] at e;nomatch e
     rw[wG n];exact RR.bh c o e,fun c o e=>by
     have n:c≠p:=fun z=>by subst z;rw[p3] at e;nomatch e
     rw[wG n];exact RR.rv.fh c o e,RR.nb,fun _=>RR.rv.tt.step (fun _ _ e=>.inl e) (fun c o e n=>by
     have:c≠p:=fun z=>by subst z;rw[p2] at e;replace e:=sI_ e;subst e;exact n _ rfl
     rw[wG this];exact e) fun d a e=>by
     unfold xC at e
     split at e
     ·nomatch e
     ·exact e⟩
   have eH:upd (xC H' p) p (.lst xs)=H':=by
    rw[uD];funext b;unfold upd;split
    ·rename_i z;subst z;exact p2.symm
    ·rfl
   have:=h p xs F' (xC H' p) x (wz _ _) p4
   rw[eH] at this
   exact this
  |ex c=>simp only[flF,z] at h
  |no=>simp only[flF,z] at h
 |nx τ=>rw[q] at h;exact h.elim
 |rt d=>rw[q] at h;exact h.elim
 |ro d τ=>rw[q] at h;exact h.elim
 |bk τ=>rw[q] at h;exact h.elim
 |ct τ=>rw[q] at h;exact h.elim
 |ex c=>rw[q] at h;exact h.elim
 |no=>rw[q] at h;exact h.elim
 |rs c τ=>rw[q] at h;exact h.elim
noncomputable def DefN(P:Program)(w:World)(K:Frag)(mg:Str→Option Value)(base:Heap)(x:Str)(k n:Nat)(ps:List Str)(g:List D→Rs (List D)):Prop:=
 ∃f fd,FnOk P w K mg base CX0 k f fd ps (spN K n g)∧Binds K fd ps []∧keepIn K (.ref f)=true∧mg x=some (.ref f)
theorem DefN.mk{x:Str}{st:Stmt}{f:Addr}{fd:FuncData}{N ps:List Str}{k n:Nat}{fb:FS}(D:z7 K mg x st f fd)(S:zD N ps (zh st))(hn:ps.length=n)
  (hb:∀(kV doc pm:Value) (an:Option Addr) (cdv ct:Value) (us:List Value),us.length=ps.length→bindArgs (fnOf x x (zG st) (zx st) (zh st) .none kV doc pm an cdv ct) ⟨us,[]⟩=pure (ps.zip us))
  (hbody:∀(cdv:Value) (A:Around) (outer:List Env) (s:Shared) (H:Hp) (E:XK),Room k (A.deeper (envOfC x (zh st) s.heap.objs.size f cdv)) →
   uc (jJ CX0 P w K mg base N x (zh st) f cdv A outer s H E).nox (zx st) fb):DefN P w K mg base x (k+1) n ps (runN N.length fb):=
 ⟨f,fd,fnN D.fn S hn hbody,D.fn.binds hb,D.fn.kp,D.at_⟩
theorem DefN.ok{x:Str}{k n:Nat}{ps:List Str}{g:List D→Rs (List D)}(M:DefN P w K mg base x k n ps g):DefOk P w K mg base x k n ps (fun ds=>(g ds).bind fun xs=>.ok (.lst xs)):=by
 refine X21 M fun f fd F h=>?_
 refine Y21 f fd (F.imp fun vs H Q E h0=>?_) h
 refine X01 h0 fun hl r90_=>?_;refine X23 r90_ fun ds Fz fh tt r h=>?_
 refine⟨hl,ds,Fz,fh,tt,r,?_⟩
 dsimp only at h
 cases q:g ds with
 |ok es=>
  rw[q] at h
  intro p xs F' H' x hp r
  refine h (.ref p) (upd F' p (.lst xs)) _ (x.trans (Ext.new x.fh hp)) ?_
  simp only[Rep]
  exact Y22 p xs rfl zp (r.mono (yq (zF x.fh hp)))
 |ex c=>rw[q] at h;exact h.elim
 |no=>rw[q] at h;exact h.elim
end
noncomputable def Zv(F H:Hp)(L:List Addr):Hp:=fun b=>if b∈L then H b else F b
noncomputable def unl(F1:Hp)(L:List Addr):Hp:=fun b=>if b∈L then none else F1 b
section
variable{K:Frag}{F H F1 H1:Hp}{L:List Addr}
theorem wO{b:Addr}(h:b∈L):Zv F H L b=H b:=if_pos h
theorem vd{b:Addr}(h:b∉L):Zv F H L b=F b:=if_neg h
theorem M4{b:Addr}(h:b∈L):unl F1 L b=none:=if_pos h
theorem jP{b:Addr}(h:b∉L):unl F1 L b=F1 b:=if_neg h
noncomputable def Lent(F H:Hp)(L:List Addr):Prop:=∀b∈L,F b=none∧∃ws,H b=some (.lst ws)
theorem Lent.ff(h:Lent F H L):Same F (Zv F H L):=fun b o e=>by
 have:b∉L:=fun z=>by rw[(h b z).1] at e;nomatch e
 rw[vd this];exact e
theorem Lent.fh(h:Lent F H L)(fh:Same F H):Same (Zv F H L) H:=fun b o e=>by
 by_cases z:b∈L
 ·rw[wO z] at e;exact e
 ·rw[vd z] at e;exact fh b o e
theorem Lent.tt(h:Lent F H L)(t:TbT F H):TbT (Zv F H L) H:=⟨fun r hr=>by
 obtain⟨t1,t2⟩:=t.1 r hr
 refine⟨?_,t2⟩
 have:r.1∉L:=fun z=>by
  refine X01 (h _ z) fun _ r91_=>?_;refine X10 r91_ fun ws q=>?_
  rcases t2 with e|⟨c,e,_⟩ <;> rw[e] at q <;> cases q
 rw[vd this];exact t1,t.2⟩
theorem Lent.back(h:Lent F H L)(t:TbT F H)(x:Ext (Zv F H L) H F1 H1):Ext F H (unl F1 L) H1:=
 ⟨fun b o e=>by
  have:b∉L:=fun z=>by rw[(h b z).1] at e;nomatch e
  rw[jP this];exact x.ff _ _ (h.ff b o e),x.hh,fun b o e=>by
  by_cases z:b∈L
  ·rw[M4 z] at e;nomatch e
  ·rw[jP z] at e;exact x.fh b o e,fun b o e=>by
  by_cases z:b∈L
  ·rw[M4 z] at e;nomatch e
  ·rw[jP z] at e
   rcases x.nw b o e with y|y
   ·rw[vd z] at y;exact .inl y
   ·exact .inr y,fun t=>by
  have t1:=x.tt (h.tt t)
  exact⟨fun r hr=>⟨by
   obtain⟨y1,_⟩:=t1.1 r hr
   unfold unl;split
   ·rfl
   ·exact y1,(t1.1 r hr).2⟩,t1.2⟩⟩
end
mutual
noncomputable def noL:D→Bool
 |.non=>true
 |.bl _=>true
 |.int _=>true
 |.str _=>true
 |.tup ds=>noLs ds
 |_=>false
noncomputable def noLs:List D→Bool
 |[]=>true
 |d::r=>noL d&&noLs r
end
section
variable{K:Frag}{F1:Hp}{L:List Addr}
mutual
theorem zb5(hl:∀b∈L,∃ws,F1 b=some (.lst ws)):∀(d:D) (v:V),noL d=true→Rep K F1 d v→Rep K (unl F1 L) d v
 |.non,v,_,r=>by simp only[Rep] at r ⊢;exact r
 |.bl _,v,_,r=>by simp only[Rep] at r ⊢;exact r
 |.int _,v,_,r=>by simp only[Rep] at r ⊢;exact r
 |.str _,v,_,r=>by simp only[Rep] at r ⊢;exact r
 |.tup ds,v,h,r=>by
  simp only[Rep] at r ⊢
  refine X22 r fun a vs e q t=>?_
  have h:noLs ds=true:=by simpa[noL] using h
  refine Y22 a vs e ?_ (unl_reps hl ds vs h t)
  rcases q with (q|⟨o,q⟩) | q
  ·refine .inl (.inl ?_)
   have:a∉L:=fun z=>by obtain⟨ws,y⟩:=hl a z;rw[q] at y;nomatch y
   rw[jP this];exact q
  ·refine .inl (.inr ⟨o,?_⟩)
   have:a∉L:=fun z=>by obtain⟨ws,y⟩:=hl a z;rw[q] at y;nomatch y
   rw[jP this];exact q
  ·exact .inr q
 |.lst _,v,h,_=>by simp[noL] at h
 |.scr _,v,h,_=>by simp[noL] at h
 |.raw _,v,h,_=>by simp[noL] at h
 |.exc _,v,h,_=>by simp[noL] at h
 |.dct _ _,v,h,_=>by simp[noL] at h
theorem unl_reps(hl:∀b∈L,∃ws,F1 b=some (.lst ws)):∀(ds:List D) (vs:List V),noLs ds=true→Reps K F1 ds vs→Reps K (unl F1 L) ds vs
 |[],vs,_,r=>by simp only[Reps] at r ⊢;exact r
 |d::ds,vs,h,r=>by
  simp only[Reps] at r ⊢
  refine X22 r fun v s e r1 r2=>?_
  have h:noL d=true∧noLs ds=true:=by simpa[noLs] using h
  exact Y22 v s e (zb5 hl d v h.1 r1) (unl_reps hl ds s h.2 r2)
end
end
noncomputable def Lsl(σ:St)(H:Hp)(i:Nat)(c:Str):List Addr:=match σ[i]? with
 | some (some (.ref a))=>Lof H c a
 |_=>[]
section
variable{K:Frag}{F H F1 H1:Hp}{τ:DS}{σ:St}{i:Nat}{c:Str}
theorem Yp{a:Addr}(h:σ[i]?=some (some (.ref a))):Lsl σ H i c=Lof H c a:=by unfold Lsl;rw[h]
theorem wL(R:RV K F τ σ H)(o:ObS τ[i]? c):Lent F H (Lsl σ H i c):=fun b hb=>by
 obtain⟨a,C,dx,vs,fs,h1,h2,h3⟩:=R.ob.get o
 rw[Yp h1,Lof.ins h2] at hb
 exact h3.own hb
theorem Uz(R:RV K F τ σ H)(o:ObS τ[i]? c)(hh:∀b ws,H b=some (.lst ws)→H1 b=some (.lst ws))(hi:∀b C dx vs,H b=some (.ins C dx vs)→H1 b=some (.ins C dx vs)):Lsl σ H1 i c=Lsl σ H i c:=by
 obtain⟨a,C,dx,vs,fs,h1,h2,h3⟩:=R.ob.get o
 rw[Yp h1,Yp h1,Lof.ins h2,Lof.ins (hi _ _ _ _ h2)]
 exact h3.same fun l ws _ e=>hh l ws e
end
noncomputable def tL(X:Cx)(i:Nat)(c:Str)(fe:FE):TE:=fun σ H Q=>∃F τ,RV X.K F τ σ H∧ObS τ[i]? c∧Ok X (fe τ) (Ev X.K (Zv F H (Lsl σ H i c)) H Q)
noncomputable def tAL(X:Cx)(i:Nat)(c:Str)(fs:FA):TA:=fun σ H Q=>∃F τ,RV X.K F τ σ H∧ObS τ[i]? c∧Ok X (fs τ) (Evs X.K (Zv F H (Lsl σ H i c)) H Q)
noncomputable def PDL(X:Cx)(i:Nat)(c:Str)(e:Expr)(fe:FE):Prop:=PE X e (tL X i c fe)
noncomputable def PAL(X:Cx)(i:Nat)(c:Str)(es:List Expr)(fs:FA):Prop:=PA X es (tAL X i c fs)
section
variable{X:Cx}{pos:Pos}{e:Expr}{es:List Expr}{fe:FE}{fs:FA}{i:Nat}{c:Str}
theorem tL.of{F H:Hp}{τ:DS}{σ:St}{Q:VK}{G:D→Prop}(R:RV X.K F τ σ H)(o:ObS τ[i]? c)(h:Ok X (fe τ) G)
  (k:∀d v F1 H1,G d→Ext (Zv F H (Lsl σ H i c)) H F1 H1→RV X.K (unl F1 (Lsl σ H i c)) τ σ H1→Zv (unl F1 (Lsl σ H i c)) H1 (Lsl σ H1 i c)=F1→Rep X.K F1 d v→Q v H1):tL X i c fe σ H Q:=
 ⟨F,τ,R,o,h.imp fun d g v F1 H1 x r=>by
  have L:=wL R o
  refine k d v F1 H1 g x (R.ext (L.back R.tt x)) ?_ r
  rw[Uz R o (fun b ws e=>x.hh _ _ e) fun b C dx vs e=>x.hh _ _ e]
  funext b
  by_cases z:b∈Lsl σ H i c
  ·rw[wO z]
   refine X01 (L b z) fun _ r92_=>?_;refine X10 r92_ fun ws q=>?_
   have y:F1 b=some (.lst ws):=x.ff _ _ (by rw[wO z];exact q)
   rw[y];exact x.fh _ _ y
  ·rw[vd z,jP z]⟩
theorem J4(h:PDE X e fe):PDL X i c e fe:=PE.imp h fun σ H Q z_=>by
 refine X22 z_ fun F τ R o q=>?_
 refine tE.of R q fun d v F1 H1 g x R1 r=>?_
 have L:=wL R o
 have es:=Uz (H1:=H1) R o (fun b ws e=>x.hh _ _ e) fun b C dx vs e=>x.hh _ _ e
 have L1:=wL R1 o
 rw[es] at L1
 refine g v (Zv F1 H1 (Lsl σ H i c)) H1 ⟨fun b u y=>?_,x.hh,L1.fh R1.fh,fun b u y=>?_,fun _=>L1.tt (x.tt R.tt)⟩ (r.mono L1.ff)
 ·by_cases z:b∈Lsl σ H i c
  ·rw[wO z] at y ⊢
   refine X01 (L b z) fun _ r93_=>?_;refine X10 r93_ fun ws q=>?_
   rw[q] at y;replace y:=sI_ y;subst y
   exact x.hh _ _ q
  ·rw[vd z] at y ⊢;exact x.ff _ _ y
 ·by_cases z:b∈Lsl σ H i c
  ·rw[wO z] at y ⊢
   refine X01 (L b z) fun _ r94_=>?_;refine X10 r94_ fun ws q=>?_
   have w:H1 b=some (.lst ws):=x.hh _ _ q
   rw[w] at y;replace y:=sI_ y;subst y
   exact .inl q
  ·rw[vd z] at y ⊢;exact x.nw _ _ y
theorem Gd:PAL X i c [] zi:=PA.imp vb fun σ H Q z_=>by refine X22 z_ fun F τ R o h=>?_;exact h [] _ H (Ext.refl ((wL R o).fh R.fh)) Reps.nil
theorem uK(ha:PDL X i c e fe)(hr:PAL X i c es fs)(hs:starEach (e::es) X.env=(false,eval e X.env)::starEach es X.env:=by rfl):PAL X i c (e::es) (za fe fs):=
 PA.imp (xD ha hr hs) fun σ H Q ⟨F,τ,R,o,h⟩=>tL.of R o h.bind fun x v F1 H1 g x1 R1 e1 r1=>⟨_,τ,R1,o,by
  rw[e1]
  exact g.bind.imp fun ds g2 vs F2 H2 x2 r2=>g2 (v::vs) F2 H2 (x1.trans x2) (Reps.cons (r1.mono x2.ff) r2)⟩
theorem ze9{k n:Nat}{ps:List Str}{g:List D→Rs D}{x:Str}{p:Pos}(D:DefOk X.prog X.w X.K X.mg X.base x k n ps g)(hr:Room k X.A)(ha:PAL X i c (e::es) fs)(hfs:∀τ ds,fs τ=.ok ds→ds.length=(e::es).length)(hn:(e::es).length=n:=by rfl)(hg:Gl X x:=by rfl)(hdb:(x==("__debug__" : Str))=false:=by decide)
  (he:starEach (e::es) X.env=(false,eval e X.env)::starEach es X.env:=by rfl) (hpl:(backTo pos (starEach es X.env)).any (·.1)=false:=by rfl):PDL X i c (.Call (.Name x p) (e::es) [] pos) (zv g fs):=by
 refine X23 D fun f fd F hb hk hm=>?_
 refine PE.imp (ZQ F hr hg hm hk hb .nil (E:=E0) j9 ha hdb he hpl) fun σ H Q z_=>?_
 refine X22 z_ fun Fz τ R o h=>?_
 have hb:=h.bind
 refine Y22 Fz τ R o ?_
 cases q:fs τ with
 |no=>rw[q] at hb;exact hb
 |ex c=>rw[q] at hb;exact hb
 |ok ds=>
  rw[q] at hb
  intro vs F1 H1 x r
  rw[List.append_nil]
  refine⟨by rw[← r.length,hfs τ ds q,hn],ds,F1,x.fh,x.tt ((wL R o).tt R.tt),r,?_⟩
  have hb:Ok X (WL (g ds)) (Ev X.K (Zv Fz H (Lsl σ H i c)) H Q):=hb
  cases z:g ds with
  |ok d=>rw[z] at hb;exact Ev.ext hb x
  |ex c=>rw[z] at hb;exact hb.elim
  |no=>rw[z] at hb;exact hb.elim
noncomputable def Up(i:Nat)(c:Str)(g:List D→Rs (List D))(fs:FA):FA:=fun τ=>(uz τ i c).bind fun _=>(fs τ).bind fun ds=>match g ds with
 |.ok es=>if noLs es=true then .ok es else .no
 |_=>.no
theorem Le{τ:DS}{P:Fs→Prop}(h:Ok X (uz τ i c) P):ObS τ[i]? c∧∃fs,P fs:=by
 unfold uz at h
 split at h
 ·rename_i n c' fs e
  by_cases z:c'=c
  ·subst z;rw[if_pos rfl] at h;exact⟨.inl ⟨n,fs,e⟩,fs,h⟩
  ·rw[if_neg z] at h;exact h.elim
 ·rename_i c' fs e
  by_cases z:c'=c
  ·subst z;rw[if_pos rfl] at h;exact⟨.inr ⟨fs,e⟩,fs,h⟩
  ·rw[if_neg z] at h;exact h.elim
 ·exact h.elim
theorem Mm{k n:Nat}{ps:List Str}{g:List D→Rs (List D)}{x:Str}{p:Pos}(D:DefN X.prog X.w X.K X.mg X.base x k n ps g)(hr:Room k X.A)(ha:PAL X i c (e::es) fs)(hfs:∀τ ds,fs τ=.ok ds→ds.length=(e::es).length)(hn:(e::es).length=n:=by rfl)(hg:Gl X x:=by rfl)(hdb:(x==("__debug__" : Str))=false:=by decide)
  (he:starEach (e::es) X.env=(false,eval e X.env)::starEach es X.env:=by rfl) (hpl:(backTo pos (starEach es X.env)).any (·.1)=false:=by rfl):PDF X (.Call (.Name x p) (e::es) [] pos) (Up i c g fs):=by
 refine X23 D fun f fd F hb hk hm=>?_
 refine PE.imp (ZQ F hr hg hm hk hb .nil (E:=E0) j9 ha hdb he hpl) fun σ H Q z_=>?_
 refine X21 z_ fun Fz τ R h=>?_
 refine X01 (Le (X:=X) h.bind) fun o r95_=>?_;refine X10 r95_ fun _ hb=>?_
 have hb:=hb.bind
 refine Y22 Fz τ R o ?_
 cases q:fs τ with
 |no=>rw[q] at hb;exact hb
 |ex c=>rw[q] at hb;exact hb
 |ok ds=>
  rw[q] at hb
  intro vs F1 H1 x r
  rw[List.append_nil]
  have L:=wL R o
  refine⟨by rw[← r.length,hfs τ ds q,hn],ds,F1,x.fh,x.tt (L.tt R.tt),r,?_⟩
  have hb:Ok X (match g ds with
   |.ok es=>if noLs es=true then .ok es else .no
   |_=>.no) _:=hb
  cases z:g ds with
  |ok es'=>
   rw[z] at hb
   obtain⟨hn',hb⟩:=yG hb
   intro p xs F2 H2 x2 hp r2
   refine hb p xs (unl F2 (Lsl σ H i c)) H2 (L.back R.tt (x.trans x2)) hp (unl_reps (fun b hb2=>?_) es' xs hn' r2)
   refine X01 (L b hb2) fun _ r96_=>?_;refine X10 r96_ fun ws y=>?_
   exact⟨ws,x2.ff _ _ (x.ff _ _ (by rw[wO hb2];exact y))⟩
  |ex c=>rw[z] at hb;exact hb.elim
  |no=>rw[z] at hb;exact hb.elim
end
section
variable{X:Cx}{pos:Pos}{e a b ix:Expr}{es:List Expr}{fe fa fb fi:FE}{fs:FA}{i:Nat}{c f x:Str}{C:Addr}
theorem LZ{K:Frag}{F H F1 H1:Hp}{τ:DS}{σ:St}(R:RV K F τ σ H)(o:ObS τ[i]? c)(x:Ext F H F1 H1):Ext (Zv F H (Lsl σ H i c)) H (Zv F1 H1 (Lsl σ H i c)) H1∧Lent F1 H1 (Lsl σ H i c):=by
 have L:=wL R o
 have es:=Uz (H1:=H1) R o (fun b ws e=>x.hh _ _ e) fun b C dx vs e=>x.hh _ _ e
 have R1:=R.ext x
 have L1:=wL R1 o
 rw[es] at L1
 refine⟨⟨fun b u y=>?_,x.hh,L1.fh R1.fh,fun b u y=>?_,fun _=>L1.tt (x.tt R.tt)⟩,L1⟩
 ·by_cases z:b∈Lsl σ H i c
  ·rw[wO z] at y ⊢
   refine X01 (L b z) fun _ r97_=>?_;refine X10 r97_ fun ws q=>?_
   rw[q] at y;replace y:=sI_ y;subst y
   exact x.hh _ _ q
  ·rw[vd z] at y ⊢;exact x.ff _ _ y
 ·by_cases z:b∈Lsl σ H i c
  ·rw[wO z] at y ⊢
   refine X01 (L b z) fun _ r98_=>?_;refine X10 r98_ fun ws q=>?_
   have w:H1 b=some (.lst ws):=x.hh _ _ q
   rw[w] at y;replace y:=sI_ y;subst y
   exact .inl q
  ·rw[vd z] at y ⊢;exact x.nw _ _ y
noncomputable def JB(i:Nat)(c f:Str):FE:=fun τ=>(U5 τ i c f).bind fun ds=>.ok (.lst ds)
theorem Q9{p1:Pos}(hx:PE X (.Name x p1) (xf i))(hC:nsIn X.K mainGlobals c=some (some (.ref C)))(cl:Cls X.K C)(na:NoAttr X.K C f)(ho:Tabs.own c f=true:=by rfl)
  (hb:attributeBase (.Name x p1) f X.env (eval (.Name x p1) X.env)=eval (.Name x p1) X.env:=by rfl):PDL X i c (.Attribute (.Name x p1) f pos) (JB i c f):=
 PE.imp (jk hx hb) fun σ H Q z_=>by
  refine X22 z_ fun F τ R o h=>?_
  obtain⟨ds,a,C',dx,vs,l,ws,h1,h2,h3,h4,h5,h6,h7,h8⟩:=V4 R ho (Ok.bind h)
  obtain rfl:C=C':=by rw[hC] at h3;replace h3:=PySem.Value.ref.inj (Option.some.inj (Option.some.inj h3));subst h3;rfl
  have L:=wL R o
  have hl:l∈Lsl σ H i c:=by rw[Yp h1,Lof.ins h2];exact jX ho h4
  refine⟨_,h1,a,C,dx,vs,.ref l,rfl,h2,cl,na,h4,h8 (.ref l) _ H (Ext.refl (L.fh R.fh)) ?_⟩
  simp only[Rep]
  exact Y22 l ws rfl (by rw[wO hl];exact h5) (h7.mono L.ff)
noncomputable def JD(i:Nat)(c f:Str)(fi:FE):FE:=fun τ=>(WK τ i c f).bind fun es=>(fi τ).bind fun k=>match k with
 |.int k=>match at2 es k with
  |some p=>.ok (.lst p.2)
  |none=>.no
 |_=>.no
theorem Ga{p1 p2:Pos}(hx:PE X (.Name x p1) (xf i))(hC:nsIn X.K mainGlobals c=some (some (.ref C)))(cl:Cls X.K C)(na:NoAttr X.K C f)(hi:PDE X ix fi)(ho:Tabs.own c f=false∧Tabs.own2 c f=true)(hs:vU ix:=by intro _ _;rfl):PDL X i c (.Subscript (.Attribute (.Name x p1) f p2) ix pos) (JD i c f fi):=
 PE.imp (YQ ix_list (jk hx) hi hs) fun σ H Q z_=>by
  refine X22 z_ fun F τ R o h=>?_
  obtain⟨es,a,C',dx,vs,l,as,h1,h2,h3,h4,h5,h6,h7,h8⟩:=Xk R ho (Ok.bind h)
  obtain rfl:C=C':=by rw[hC] at h3;replace h3:=PySem.Value.ref.inj (Option.some.inj (Option.some.inj h3));subst h3;rfl
  refine⟨_,h1,a,C,dx,vs,.ref l,rfl,h2,cl,na,h4,?_⟩
  refine tE.of R h8.bind fun k w F2 H2 g2 x2 R2 r2=>?_
  cases k with
  |int k=>
   simp only[Rep] at r2
   simp only at g2
   cases q:at2 es k with
   |none=>rw[q] at g2;exact g2.elim
   |some jd=>
    obtain⟨j,ds⟩:=jd
    rw[q] at g2
    obtain⟨b,ws,z1,z2,z3,z4,z5⟩:=Ws h7 q
    have hl:b∈Lsl σ H i c:=by
     rw[Yp h1,Lof.ins h2]
     exact jY (by rw[ux ho h5];exact List.mem_cons_of_mem _ (List.mem_of_getElem? z1)) h4
    obtain⟨x3,L3⟩:=LZ R o x2
    refine⟨l,_,k,.ref b,rfl,r2,SqL.of (x2.hh _ _ h5),z2,g2 (.ref b) _ H2 x3 ?_⟩
    simp only[Rep]
    exact Y22 b ws rfl (by rw[wO hl];exact x2.hh _ _ z3) ((z5.mono x2.ff).mono L3.ff)
  |_=>exact g2.elim
theorem zq6{r:R2}{op:D→D→Rs D}(h2:∀F H x y dx dy Q,Same F H→Rep X.K F dx x→Rep X.K F dy y→Ok X (op dx dy) (Ev X.K F H Q)→r x y H Q)(σ:St)(H:Hp)(Q:VK)(h:tL X i c (eOp op fa fb) σ H Q):tOp r (tL X i c fa) (tL X i c fb) σ H Q:=by
 obtain⟨F,τ,R,o,h⟩:=h
 refine tL.of R o h.bind fun d v F1 H1 g x1 R1 e1 r1=>?_
 refine Y22 _ τ R1 o ?_
 rw[e1]
 exact g.bind.imp fun d2 g2 w F2 H2 x2 r2=>h2 F2 H2 v w d d2 Q x2.fh (r1.mono x2.ff) r2 (g2.imp fun d3 g3=>Ev.ext g3 (x1.trans x2))
noncomputable def eLd(i:Nat)(c:Str)(fe:FE):FE:=fun τ=>(uz τ i c).bind fun _=>(fe τ).bind fun d=>if scal d=true then .ok d else .no
end
section
variable{X:Cx}{pos:Pos}{e:Expr}{fe:FE}{ff:FA}{i:Nat}
noncomputable def fSl(fe:FE)(fl fh:FO):FA:=fun τ=>(fe τ).bind fun d=>(fl τ).bind fun l=>(fh τ).bind fun u=>match d with
 |.lst ds=>.ok (cutD ds l u)
 |_=>.no
theorem zp5{lo hi:Option Expr}{fl fh:FO}{p2:Pos}(he:PDE X e fe)(hl:PDO X lo fl)(hu:PDO X hi fh):PDF X (.Subscript e (.Slice lo hi none p2) pos) (fSl fe fl fh):=
 PE.imp (UU (sl_str.or QR) he hl hu) fun σ H Q z_=>by
  refine X21 z_ fun F τ R h=>?_
  refine tE.of R h.bind fun d v F1 H1 g x R1 r=>?_
  refine Y21 F1 τ R1 (g.bind.imp fun l gl F2 H2 x2=>⟨F2,τ,R1.ext x2,gl.bind.imp fun u gu F3 H3 x3=>?_⟩)
  have f3:=x3.fh
  have x13:=x.trans (x2.trans x3)
  cases d with
  |lst ds=>
   simp only[Rep] at r;obtain⟨a,vs,rfl,e1,t⟩:=r
   refine .inr ⟨a,vs,rfl,SqL.of (f3 _ _ (x3.ff _ _ (x2.ff _ _ e1))),fun p hp=>gu p _ F3 H3 x13 hp ?_⟩
   unfold cutD Qx
   rw[← t.length]
   exact((t.mono (x2.ff.trans x3.ff)).drop _).take _
  |_=>exact gu.elim
noncomputable def Mv(i:Nat)(τ:DS):DS:=match τ[i]? with
 | some (some (.obj _ c fs))=>τ.set i (some (.obr c fs))
 |_=>τ
theorem RV.toR{K:Frag}{F H:Hp}{τ:DS}{σ:St}(R:RV K F τ σ H):RV K F (Mv i τ) σ H:=by
 unfold Mv
 split
 ·rename_i n c fs hi
  have hl:i<τ.length:=(List.getElem?_eq_some_iff.mp hi).1
  have gv:∀{j:Nat} {s:Sl},(∀c fs,s≠.obr c fs)→(τ.set i (some (.obr c fs)))[j]?=some (some s)→i≠j∧τ[j]?=some (some s):=fun {j s} m h=>by
   by_cases z:i=j
   ·subst z;rw[List.getElem?_set_self hl] at h;replace h:=uI_ h;subst h;exact absurd rfl (m _ _)
   ·rw[List.getElem?_set_ne z] at h;exact⟨z,h⟩
  have gs:∀{j:Nat} {c':Str},ObS (τ.set i (some (.obr c fs)))[j]? c'→ObS τ[j]? c':=fun {j c'} h=>by
   by_cases z:i=j
   ·subst z
    rw[List.getElem?_set_self hl] at h
    rcases h with ⟨_,_,h⟩|⟨_,h⟩
    ·nomatch h
    ·cases h;exact .inl ⟨n,_,hi⟩
   ·rw[List.getElem?_set_ne z] at h;exact h
  refine⟨R.fh,by simp[R.len],fun j d h=>R.val j d (gv (fun _ _ z=>by nomatch z) h).2,fun j ds h=>R.own j ds (gv (fun _ _ z=>by nomatch z) h).2,fun j k ds es b hjk h1 h2=>R.dis j k ds es b hjk (gv (fun _ _ z=>by nomatch z) h1).2 (gv (fun _ _ z=>by nomatch z) h2).2,R.tt,⟨fun j m c1 g h=>R.ob.at_ j m c1 g (gv (fun _ _ z=>by nomatch z) h).2,fun j k m c1 c2 g b hjk h1 h2=>R.ob.dis j k m c1 c2 g b hjk (gv (fun _ _ z=>by nomatch z) h1).2 (gs h2),fun j c1 g h=>?_,fun j k m c1 c2 g b b' l hjk h1 h2=>R.ob.ll j k m c1 c2 g b b' l hjk (gv (fun _ _ z=>by nomatch z) h1).2 (gs h2),fun j k c1 ds b l h1 h2=>R.ob.lo j k c1 ds b l (gs h1) (gv (fun _ _ z=>by nomatch z) h2).2⟩⟩
  by_cases z:i=j
  ·subst z
   rw[List.getElem?_set_self hl] at h
   cases h
   refine X11 (R.ob.at_ i n c fs hi) fun a q1 r99_=>?_;refine X34 r99_ fun C dx vs q2 _ q4 q5 _=>?_
   exact⟨a,C,dx,vs,q1,q2,q4,q5⟩
  ·rw[List.getElem?_set_ne z] at h;exact R.ob.rd j c1 g h
 ·exact R
end
noncomputable def zn5(X:Cx)(G:St→Hp→Prop)(f:FA):TI:=fun σ H R=>∃F τ,RV X.K F τ σ H∧G σ H∧Ok X (f τ) fun ds=>∀J F1 H1,Ext F H F1 H1→ItH X.K J F1 H1 ds→R J H1
noncomputable def Tf(X:Cx)(G:St→Hp→Prop)(f:FA):TE:=fun σ H Q=>∃F τ,RV X.K F τ σ H∧G σ H∧Ok X (f τ) fun ds=>∀p vs F' H',Ext F H F' H'→H' p=none→Reps X.K F' ds vs→Q (.ref p) (upd H' p (.lst vs))
section
variable{X:Cx}{scope:Scope}{tn fr:List Str}{idx:List Nat}{tg iter elt:Expr}{ifs:List Expr}{pos:Pos}{fi:FA}{set:FG}{ft:FT}{fe:FE}
theorem Qy{G:St→Hp→Prop}(so:Y7 set){Y:Cx}(hK:Y.K=X.K)(σ:St)(H:Hp)(Q:VK)(h:Tf X G (xK tn.length idx fi set ft fe) σ H Q):UE (wf tn.length idx) (zn5 X G fi) (tG Y set) (tTs Y ft) (tE Y fe) σ H Q:=by
 obtain⟨F,τ,R,gg,h⟩:=h
 refine Y22 F τ R gg (h.bind.imp fun ds gds J F1 H1 x io=>fun acc hacc=>?_)
 cases q:vE set ft fe (vx tn.length idx τ) ds with
 |no=>rw[q] at gds;exact gds.elim
 |ex c=>rw[q] at gds;exact gds.elim
 |ok xs=>
  rw[q] at gds
  obtain⟨hz,k⟩:=yG gds
  have R1:=R.ext x
  have hF1:F1 acc=none:=zF x.fh hacc
  refine⟨fun i m σ1 Hc=>m=ds.length-i∧i≤ds.length∧∃F2 Hm τ1 dn rs vs,CWH X.K set ft fe (vx tn.length idx τ) ds xs F1 H1 acc i σ1 Hc F2 Hm τ1 dn rs vs,⟨ds.length,by simp,Nat.zero_le _,F1,H1,_,[],xs,[],Ext.refl x.fh,hacc,rfl,Reps.nil,?_,wT _ _ _,fun _=>rfl,q,rfl⟩,?_⟩
  ·exact(QX tn.length idx R1).free_upd (wT _ _ _) hacc hF1 (.inl hacc)
  rintro i m σ1 Hc ⟨rfl,hi,F2,Hm,τ1,dn,rs,vs,x2,hm,rfl,r2,R2,n2,so2,cl,ex⟩
  obtain⟨i1,i2⟩:=io i F2 _ x2.ff R2.rv.fh (x2.hh.trans (.of (yq hm)))
  by_cases hlt:i<ds.length
  ·have hd:ds.drop i=ds[i]::ds.drop (i+1):=List.drop_eq_getElem_cons hlt
   rw[hd,vE] at cl
   obtain⟨go,yl⟩:=i2 ds[i] (by simp[hlt])
   refine .inr ⟨go,fun y H' yy=>?_⟩
   refine X11 (yl y H' yy) fun F3 x3 r3=>?_
   refine⟨F3,τ1,ds[i],by rw[hK];exact(R2.ext x3).rv,by rw[hK];exact r3,?_⟩
   rw[so2]
   cases e1:set ds[i] (vx tn.length idx τ) with
   |no=>rw[e1] at cl;nomatch cl
   |ex c=>rw[e1] at cl;nomatch cl
   |ok τ2=>
    rw[e1] at cl
    simp only at cl
    intro σ2 _ RR _
    rw[hK] at RR
    have RR:=RR _ _ (R2.ext x3)
    have n3:=so.no _ _ _ e1 (wT _ _ _)
    have so3:∀d,set d τ2=set d (vx tn.length idx τ):=fun d=>so.ov d _ _ _ e1
    cases e2:ft τ2 with
    |no=>rw[e2] at cl;nomatch cl
    |ex c=>rw[e2] at cl;nomatch cl
    |ok b=>
     rw[e2] at cl
     refine Y21 F3 τ2 (by rw[hK];exact RR.rv) ?_
     rw[e2]
     intro F4 H4 x4
     have x34:=x3.trans x4
     cases b with
     |false=>
      simp only at cl
      rw[if_neg (by simp)]
      obtain⟨y1,y2⟩:=uQ x2 hm x34
      have ha:H4 acc=some (.lst vs):=x34.hh acc _ zp
      have eH:H4=upd (xC H4 acc) acc (.lst vs):=by
       rw[uD];funext b;unfold upd;split
       ·rename_i z;subst z;exact ha
       ·rfl
      refine⟨ds.length-(i+1),by lia,rfl,hlt,F4,xC H4 acc,τ2,dn,rs,vs,y1,wz _ _,eH,r2.mono x34.ff,RR.ext x4,n3,so3,cl,ex⟩
     |true=>
      simp only at cl
      rw[if_pos rfl]
      cases e3:fe τ2 with
      |no=>rw[e3] at cl;nomatch cl
      |ex c=>rw[e3] at cl;nomatch cl
      |ok z=>
       rw[e3] at cl
       simp only at cl
       cases e4:vE set ft fe (vx tn.length idx τ) (ds.drop (i+1)) with
       |no=>rw[e4] at cl;cases cl
       |ex c=>rw[e4] at cl;cases cl
       |ok rs'=>
        rw[e4] at cl
        have ers:z::rs'=rs:=by simpa using cl
        refine Y21 F4 τ2 (by rw[hK];exact(RR.ext x4).rv) ?_
        rw[e3]
        intro v F5 H5 x5 r5
        rw[hK] at r5
        have x35:=x34.trans x5
        obtain⟨y1,y2⟩:=uQ x2 hm x35
        refine⟨vs,x35.hh acc _ zp,?_,ds.length-(i+1),by lia,rfl,hlt,F5,xC H5 acc,τ2,dn++[z],rs',vs++[v],y1,wz _ _,by rw[uD],(r2.mono x35.ff).append (Reps.cons r5 Reps.nil),?_,n3,so3,e4,?_⟩
        ·have:=congrArg List.length ex
         rw[← ers,List.length_append,List.length_cons,r2.length] at this
         lia
        ·exact((RR.ext x4).ext x5).free_upd n3 hacc y2 (.inr ⟨_,x35.hh acc _ zp⟩)
        ·rw[ex,← ers,List.append_assoc];rfl
  ·have e:i=ds.length:=by lia
   subst e
   rw[List.drop_length,vE] at cl
   replace cl:=oI_ cl;subst cl
   rw[List.append_nil] at ex
   subst ex
   exact .inl ⟨i1 (Nat.le_refl _),k acc vs F2 Hm (x.trans x2) hm r2⟩
theorem Ml{G:St→Hp→Prop}(hb:vT X.env.scope scope=true)(hc:X.calm=true)(hfr:FreeOk scope X.N fr idx)(so:Y7 set)(hi:PI X tg iter (zn5 X G fi))
  (hg:∀s H C fp,PDG (X.comp scope (tn++fr) s H C fp) tg set) (ht:∀s H C fp,M1 (X.comp scope (tn++fr) s H C fp) ifs ft) (he:∀s H C fp,PDE (X.comp scope (tn++fr) s H C fp) elt fe)
  (hs:∀x,foldedSetIterable iter X.env x=pure x:=by intro _;rfl):PE X (.ListComp elt [⟨tg,iter,ifs,0⟩] scope pos) (Tf X G (xK tn.length idx fi set ft fe)):=
 PE.imp (Xi (s0:=wf tn.length idx) (g:=tG (X.comp scope (tn++fr) X.s₀ X.H₀ 0 []) set) (ti:=tTs (X.comp scope (tn++fr) X.s₀ X.H₀ 0 []) ft) (te:=tE (X.comp scope (tn++fr) X.s₀ X.H₀ 0 []) fe)
  (xV hb) hc (fun σ _=>by simp[wf,hfr.len]) (uV hfr) hi hg ht he hs) (Qy so rfl)
end
noncomputable def Ali(i k:Nat)(f:Str)(σ:St)(H:Hp):Prop:=∃(a C dx:Addr) (vs:List (Str×V)) (l:Addr) (as:List Addr) (b:Addr),σ[i]?=some (some (.ref a))∧H a=some (.ins C dx vs)∧vs.lookup f=some (.ref l)∧H l=some (.lst (as.map V.ref))∧as[as.length-1]?=some b∧σ[k]?=some (some (.ref b))
noncomputable def Vr(i:Nat)(c f:Str):FA:=fun τ=>(WK τ i c f).bind fun es=>match es[es.length-1]? with
 |some ds=>.ok ds
 |none=>.no
section
variable{X:Cx}{pos:Pos}{e tg:Expr}{i k:Nat}{c f y:Str}
theorem zf0{p1:Pos}(hy:PE X (.Name y p1) (xf k))(ho:Tabs.own c f=false∧Tabs.own2 c f=true):PI X tg (.Name y p1) (zn5 X (Ali i k f) (Vr i c f)):=
 PI.imp (Q3 hy) fun σ H R z_=>by
  obtain⟨F,τ,Rv,⟨a0,C0,dx0,vs0,l0,as0,b,g1,g2,g3,g4,g5,g6⟩,h⟩:=z_
  obtain⟨es,a,C,dx,vs,l,as,h1,h2,h3,h4,h5,h6,h7,h8⟩:=Xk Rv ho h.bind
  rw[h1] at g1;replace g1:=tJ_ g1;subst g1
  rw[h2] at g2;cases g2
  rw[h4] at g3;replace g3:=(L2.V.ref.inj (Option.some.inj g3)).symm;subst g3
  rw[h5] at g4
  have ea:as0=as:=by
   have:=congrArg (fun x=>match x with|some (.lst ws)=>XE ws|_=>[]) g4
   simpa[uH] using this.symm
  subst ea
  cases q:es[es.length-1]? with
  |none=>rw[q] at h8;exact h8.elim
  |some ds=>
   rw[q] at h8
   refine X23 (h7.at q) fun b' ws z1 z3 z4 z5=>?_
   rw[h7.len,g5] at z1;replace z1:=sI_ z1;subst z1
   exact⟨_,g6,b,rfl,⟨ws,SqL.of z3⟩,h8 _ F H (Ext.refl Rv.fh) fun i F2 H2 f1 f2 hh=>itl_h z3 hh f2 (z5.mono f1)⟩
end
theorem RS.fgt{K:Frag}{B Z F H:Hp}{τ:DS}{σ:St}(j:Nat)(R:RS K B Z F τ σ H):RS K B Z F (τ.set j none) σ H:=by
 have get:∀{k:Nat} {s:Sl},(τ.set j none)[k]?=some (some s)→τ[k]?=some (some s):=fun {k s} h=>by
  by_cases z:j=k
  ·subst z
   rw[List.getElem?_set] at h
   simp only[if_true] at h
   split at h <;> cases h
  ·rw[List.getElem?_set_ne z] at h;exact h
 have gs:∀{k:Nat} {c:Str},ObS (τ.set j none)[k]? c→ObS τ[k]? c:=fun {k c} h=>by
  rcases h with ⟨n,fs,h⟩|⟨fs,h⟩
  ·exact .inl ⟨n,fs,get h⟩
  ·exact .inr ⟨fs,get h⟩
 exact⟨⟨R.rv.fh,by rw[List.length_set];exact R.rv.len,fun k d h=>R.rv.val k d (get h),fun k ds h=>R.rv.own k ds (get h),fun k m ds es b hkm h1 h2=>R.rv.dis k m ds es b hkm (get h1) (get h2),R.rv.tt,
  ⟨fun k m c fs h=>R.rv.ob.at_ k m c fs (get h),fun k m n c c' fs b hkm h1 h2=>R.rv.ob.dis k m n c c' fs b hkm (get h1) (gs h2),fun k c fs h=>R.rv.ob.rd k c fs (get h),fun k m n c c' fs b b' l hkm h1 h2=>R.rv.ob.ll k m n c c' fs b b' l hkm (get h1) (gs h2),fun k m c ds b l h1 h2=>R.rv.ob.lo k m c ds b l (gs h1) (get h2)⟩⟩,
  R.bh,R.zf,R.nb,fun k ds b h=>R.ob k ds b (get h),fun k n c fs b h=>R.oo k n c fs b (get h),fun a0 dx h1 h2 k n c fs h=>R.sf a0 dx h1 h2 k n c fs (get h),fun k c fs b h=>R.ro k c fs b (get h)⟩
noncomputable def zs3(i k:Nat)(c f g:Str)(ff:FA)(gR:FS)(p:Nat×Fs×List (List D))(τ:DS)(m:Nat):Fl:=match xX g p.2.1 with
 | some (.int n0)=>if p.2.1.length<1000∧p.2.2.length<sizeLine∧k<τ.length then
   Fl.of (ff ((τ.set k none).set i (some (.obj p.1 c (xH g (.int (n0+(m:Int))) p.2.1))))) fun ds=>gR ((τ.set k none).set i (some (.obj p.1 c (xH f (.lst ((p.2.2++[ds]).map D.lst)) (xH g (.int (n0+(m:Int))) p.2.1)))))
  else .no
 |_=>.no
noncomputable def zs4(i k:Nat)(c f g:Str)(ff:FA)(gR:FS)(p:Nat×Fs×List (List D))(τ:DS):D→Fl
 |.int z=>match at2 p.2.2 z with
  |some jd=>if jd.1+1=p.2.2.length then zs3 i k c f g ff gR p τ jd.2.length else .no
  |none=>.no
 |_=>.no
noncomputable def ZM(i k:Nat)(c f g:Str)(fi:FE)(ff:FA)(gR:FS):FS:=fun τ=>Fl.of (Qi τ i c f) fun p=>Fl.of (fi τ) (zs4 i k c f g ff gR p τ)
section
variable{X:Cx}{i k:Nat}{c f g x y:Str}{C:Addr}{ix comp:Expr}{fi:FE}{ff:FA}{gR:FS}{rest:List Stmt}{p1 p2 p3 p4 p5 p6 p7 p8 p9 p10 q1 apos cpos s1 s2 s3:Pos}
theorem Te{G:St→Hp→Prop}(h:PE X comp (Tf X G ff)):PE X comp (Tf X G (fun τ=>ff (Mv i τ))):=PE.imp h fun σ H Q z_=>by refine X22 z_ fun F τ R g q=>?_;exact Y22 F (Mv i τ) R.toR g q
theorem UW(hN:X.N.Nodup)(hkN:X.N[k]?=some y)(hly:Loc X.env.scope y)(hik:i≠k)(hfg:f≠g)(hx1:PE X (.Name x p1) (xf i))(hx2:PE X (.Name x p4) (xf i))(hx3:PE X (.Name x p9) (xf i))(hy:PE X (.Name y p7) (xf k))
  (hC:nsIn X.K mainGlobals c=some (some (.ref C))) (cl:Cls X.K C) (naf:NoAttr X.K C f) (nag:NoAttr X.K C g) (hi:PDE X ix fi) (hcomp:PE X comp (Tf X (Ali i k f) ff)) (hrest:uc X rest gR) (hgl:Gl X "len") (hml:X.mg "len" = none)
  (ho:Tabs.own c f=false∧Tabs.own2 c f=true) (hog:Tabs.own c g=false∧Tabs.own2 c g=false) (hsx:vU ix:=by intro _ _;rfl)
  (hsw1:swapsWith (.Subscript (.Attribute (.Name x p1) f p2) ix p3) (some (.Name y q1)) s1.line X.env=pure false:=by rfl) (hf1:X.fn y=true∨X.env.scope.names.lookup y=some .local:=by first|exact .inl rfl|exact .inr rfl|assumption)
  (hel:starEach [.Name y p7] X.env=[(false,eval (.Name y p7) X.env)]:=by rfl) (hpl:(backTo p8 (starEach [] X.env)).any (·.1)=false:=by rfl)
  (hfew:((backTo cpos (starEach [comp] X.env)).all (fun x=>!x.1)&&(backToKw cpos (keywordEach [] X.env)).all (fun x=>x.1.isSome)
   && decide ([comp].length+([]:List Keyword).length+(if ([]:List Keyword).isEmpty then 0 else 1)<30))=true:=by rfl)
  (hline:(apos.endLine==cpos.line)=true:=by rfl) (hs:starEach [comp] X.env=[(false,eval comp X.env)]:=by rfl) (hplain:(backTo cpos (starEach [] X.env)).any (·.1)=false:=by rfl)
  (hbase:attributeBase (.Attribute (.Name x p9) f p10) "append" X.env (eval (.Attribute (.Name x p9) f p10) X.env)=eval (.Attribute (.Name x p9) f p10) X.env:=by rfl)
  (hsw3:swapsWith (.Call (.Attribute (.Attribute (.Name x p9) f p10) "append" apos) [comp] [] cpos) none s3.line X.env=pure false:=by rfl) :
  uc X (.Assign [.Name y q1] (.Subscript (.Attribute (.Name x p1) f p2) ix p3) s1 :: .AugAssign (.Attribute (.Name x p4) g p5) .Add (.Call (.Name "len" p6) [.Name y p7] [] p8) s2 :: .Expr (.Call (.Attribute (.Attribute (.Name x p9) f p10) "append" apos) [comp] [] cpos) s3::rest) (ZM i k c f g fi ff gR):=
 PSs.imp (ZP (VW hN hkN hly (YQ ix_list (jk hx1) hi hsx) hsw1 hf1) (ZP (Va hx2 (pe_callB call_len_seq hgl hml PySem.boot_len (xD hy vb (by rw[hel];rfl)) (he:=by rw[hel];rfl) (hpl:=hpl)) LO)
  (ZP (jT (Q5 PySem.F.plainAttrs_list PySem.F.slot_list_append PySem.F.type_list_append uL (jk hx3) (xD hcomp vb (by rw[hs];rfl)) hbase hfew hline (by rw[hs];rfl) hplain) hsw3) hrest))) fun E σ H ⟨B,Z,F,τ,R,h⟩=>by
  obtain⟨n,fs,es,a,C',dx,vs,l,as,h0,h1,h2,h3,h4,h5,h6,h7,nd,h8⟩:=Xl R.rv ho (Post.of h)
  obtain rfl:C=C':=by rw[hC] at h3;replace h3:=PySem.Value.ref.inj (Option.some.inj (Option.some.inj h3));subst h3;rfl
  refine⟨_,h1,a,C,dx,vs,.ref l,rfl,h2,cl,naf,h4,?_⟩
  refine tE.at R (Post.of h8) fun d w F1 H1 g1 x1 R1 r1=>?_
  cases d with
  |int z=>
   simp only[Rep] at r1
   unfold zs4 at g1
   dsimp only at g1
   cases q:at2 es z with
   |none=>rw[q] at g1;exact g1.elim
   |some jd=>
    obtain⟨j,ds⟩:=jd
    rw[q] at g1
    dsimp only at g1
    by_cases hj:j+1=es.length
    ·rw[if_pos hj] at g1
     obtain⟨b,ws,z1,z2,z3,z4,z5⟩:=Ws h7 q
     refine⟨l,_,z,.ref b,rfl,r1,SqL.of (x1.hh _ _ h5),z2,?_⟩
     unfold zs3 at g1
     dsimp only at g1
     cases qg:xX g fs with
     |none=>rw[qg] at g1;exact g1.elim
     |some d0=>
      rw[qg] at g1
      cases d0 with
      |int n0=>
       dsimp only at g1
       by_cases hc:fs.length<1000∧es.length<sizeLine∧k<τ.length
       ·rw[if_pos hc] at g1
        refine X02 hc fun hc1 hc2 hc3=>?_
        have h2':H1 a=some (.ins C dx vs):=x1.hh _ _ h2
        have h5':H1 l=some (.lst (as.map V.ref)):=x1.hh _ _ h5
        have hF:∀{b:Addr} {u:HO},H b=some u→F b=none→F1 b=none:=fun {b u} y1 y2=>by
         cases q:F1 b with
         |none=>rfl
         |some w=>
          rcases x1.nw b w q with z|z
          ·rw[y2] at z;nomatch z
          ·rw[y1] at z;nomatch z
        refine X11 (R1.rv.ob.at_ i n c fs h0) fun a' y1 r100_=>?_;refine X35 r100_ fun C2 dx2 vs2 y2 y3 y4 y5 y6 y7=>?_
        rw[h1] at y1;replace y1:=tI_ y1;subst y1
        rw[h2'] at y2;cases y2
        have lk:=y5.look (f:=g)
        rw[qg] at lk
        refine X11 lk fun v lg l2=>?_
        unfold Fld1 at l2
        rw[if_neg (by rw[hog.1];simp),if_neg (by rw[hog.2];simp)] at l2
        simp only[Rep] at l2
        have hkσ:k<σ.length:=by rw[← R.rv.len];exact hc3
        have Rk:RS X.K B Z F1 (τ.set k none) (σ.set k (some (.ref b))) H1:=by
         have:=(R1.set (i:=k) (d:=.raw (.ref b)) (v:=.ref b) (by simp only[Rep])).fgt k
         rw[List.set_set] at this;exact this
        have hτi:(τ.set k none)[i]?=some (some (.obj n c fs)):=by rw[List.getElem?_set_ne (Ne.symm hik)];exact h0
        have hσi:(σ.set k (some (V.ref b)))[i]?=some (some (.ref a)):=by rw[List.getElem?_set_ne (Ne.symm hik)];exact h1
        have hσk:(σ.set k (some (V.ref b)))[k]?=some (some (.ref b)):=List.getElem?_set_self hkσ
        refine⟨_,hσi,a,C,dx,vs,v,rfl,h2',cl,nag,lg,?_⟩
        refine⟨_,hσk,b,ws,rfl,.inl (SqL.of (x1.hh _ _ z3)),?_⟩
        refine⟨n0,(ws.length:Int),l2,rfl,dx,vs,h2',by rw[← y5.length];exact hc1,?_⟩
        have R2:=Rk.attV (f:=g) (d:=.int (n0+(ds.length:Int))) (v:=.int (n0+(ws.length:Int))) hτi hσi h2' hog (by simp only[Rep];rw[z5.length])
        have hla:l≠a:=fun z=>by subst z;rw[h2'] at h5';nomatch h5'
        have lf:(yU g (.int (n0+(ws.length:Int))) vs).lookup f=some (.ref l):=by rw[jD,if_neg hfg];exact h4
        have kk:∀x ws',H x=some (.lst ws')→upd H1 a (.ins C dx (yU g (.int (n0+(ws.length:Int))) vs)) x=some (.lst ws'):=fun x ws' e=>by
         have:x≠a:=fun z=>by subst z;rw[h2] at e;nomatch e
         rw[zj this];exact x1.hh _ _ e
        have hlast:as[as.length-1]?=some b:=by
         rw[← h7.len,← hj];exact z1
        have hI:Inn X.K F1 (upd H1 a (.ins C dx (yU g (.int (n0+(ws.length:Int))) vs))) es as:=h7.keep x1.ff fun y ws' _ y1 y2=>⟨kk y ws' y1,hF y1 y2⟩
        have hτ2:((τ.set k none).set i (some (.obj n c (xH g (.int (n0+(ds.length:Int))) fs))))[i]?=some (some (.obj n c (xH g (.int (n0+(ds.length:Int))) fs))):=List.getElem?_set_self (by
         rw[List.length_set];exact(List.getElem?_eq_some_iff.mp h0).1)
        refine⟨_,hσi,a,C,dx,_,.ref l,rfl,zp,cl,naf,lf,.inl ⟨rfl,_,SqL.of (kk l _ h5)⟩,?_⟩
        refine Y22 F1 _ R2.rv ⟨a,C,dx,_,l,as,b,hσi,zp,lf,kk l _ h5,hlast,hσk⟩ ((Post.of g1).imp fun ds2 gr p ws2 F3 H3 x3 hp r=>?_)
        have R3:=R2.ext x3
        have hF3:F3 l=none:=by
         cases q:F3 l with
         |none=>rfl
         |some w=>
          rcases x3.nw l w q with z|z
          ·rw[hF h5 h6] at z;nomatch z
          ·rw[kk l _ h5] at z;nomatch z
        have hpl':l≠p:=fun z=>by subst z;rw[x3.hh _ _ (kk l _ h5)] at hp;nomatch hp
        refine⟨l,as.map V.ref,.ref p,rfl,rfl,by rw[zj hpl'];exact x3.hh _ _ (kk l _ h5),by rw[List.length_map,← h7.len];exact hc2,?_⟩
        have k3:=R3.app2 (p:=p) (ds:=ds2) (ws:=ws2) ho hτ2 hσi (x3.hh _ _ zp) lf (x3.hh _ _ (kk l _ h5)) hF3 (hI.keep x3.ff fun y ws' hy' y1 y2=>⟨x3.hh _ _ y1,by
         cases q:F3 y with
         |none=>rfl
         |some w=>
          rcases x3.nw y w q with z|z
          ·rw[y2] at z;nomatch z
          ·rw[y1] at z;nomatch z⟩) nd hp r
        rw[show(as++[p]).map V.ref=as.map V.ref++[V.ref p] by simp,List.set_set] at k3
        exact Y41 B Z F3 _ k3 (Post.same gr (x1.ff.trans x3.ff))
       ·rw[if_neg hc] at g1;exact g1.elim
      |_=>exact g1.elim
    ·rw[if_neg hj] at g1;exact g1.elim
  |_=>exact g1.elim
end
theorem RS.new3{K:Frag}{B Z F F' H H':Hp}{τ:DS}{σ:St}{i n:Nat}{c f:Str}{fs:Fs}{a C dx p:Addr}{vs:List (Str×V)}{es:List (List D)}{as:List Addr}(R:RS K B Z F τ σ H)(ho:Tabs.own c f=false∧Tabs.own2 c f=true)(hi:τ[i]?=some (some (.obj n c fs)))(ha:σ[i]?=some (some (.ref a)))(he:H a=some (.ins C dx vs))
  (he':H' a=some (.ins C dx (yU f (.ref p) vs))) (ff:Same F F') (fh:Same F' H') (tt:TbT F' H') (kp:∀b u,b≠a→H b=some u→Kp u (H' b)) (nwF:∀b o,F' b=some o→F b=some o∨H b=none) (hp:H p=none) (hFp:F' p=none) (has:∀b∈as,H b=none) (h5:H' p=some (.lst (as.map V.ref))) (h7:Inn K F' H' es as) (nd:(p::as).Nodup) :
  RS K B Z F' (τ.set i (some (.obj n c (xH f (.lst (es.map D.lst)) fs)))) σ H':=by
 refine X11 (R.rv.ob.at_ i n c fs hi) fun a' q1 r101_=>?_;refine X35 r101_ fun C' dx' vs' q2 q3 q4 q5 q6 q7=>?_
 rw[ha] at q1;replace q1:=tI_ q1;subst q1
 rw[he] at q2;cases q2
 have hd:dx≠a:=fun z=>by subst z;rw[he] at q6;nomatch q6
 have nF:∀{b:Addr} {u:HO},H b=some u→F b=none→F' b=none:=fun {b u} y1 y2=>by
  cases q:F' b with
  |none=>rfl
  |some w=>
   rcases nwF b w q with z|z
   ·rw[y2] at z;nomatch z
   ·rw[y1] at z;nomatch z
 have kl:∀l ws,l∈zT H c vs→H l=some (.lst ws)→H' l=some (.lst ws):=fun l ws _ e1=>kp l _ (fun z=>by subst z;rw[he] at e1;nomatch e1) e1
 have sm:zT H' c vs=zT H c vs:=q5.same kl
 have e1:=ux ho h5
 have nw:∀l∈yD H' c f (.ref p),H l=none:=fun l hl=>by
  rw[e1] at hl
  rcases List.mem_cons.mp hl with z|z
  ·rw[z];exact hp
  ·exact has l z
 refine R.objset hi ha he ff fh tt (fun b u h1 _ e=>kp b u h1 e) (fun b o e=>(nwF b o e).imp id .inl) ⟨C,dx,yU f (.ref p) vs,he',nF he q3,q4,?_,kp dx _ hd q6,u6 (by rw[e1];exact nd) (by rw[sm];exact q7) fun l hl z=>?_⟩ fun l hl=>?_
 ·exact(q5.keep (H':=H') ff fun l ws hl y1 y2=>⟨kl l ws hl y1,nF y1 y2⟩).put (by unfold Fld1;rw[if_neg (by rw[ho.1];simp),if_pos ho.2];exact⟨es,p,as,rfl,rfl,h5,hFp,h7⟩)
 ·rw[sm] at z
  refine X01 (q5.own z) fun _ r102_=>?_;refine X10 r102_ fun ws q=>?_
  rw[nw l hl] at q;nomatch q
 ·rw[Lof.ins he'] at hl
  rcases jW hl with z|z
  ·exact .inr (nw l z)
  ·rw[sm] at z;exact .inl z
noncomputable def jF(g:List D→Rs (List D))(z:Int):List (List D)→Option (List (List D))
 |[]=>some []
 |ds::r=>match g [.int z,.lst ds] with
  |.ok e=>if noLs e=true then (jF g z r).map (e :: ·) else none
  |_=>none
theorem Qp{g:List D→Rs (List D)}{z:Int}{ds:List D}{r rs:List (List D)}(h:jF g z (ds::r)=some rs):∃e rs',g [.int z,.lst ds]=.ok e∧noLs e=true∧jF g z r=some rs'∧rs=e::rs':=by
 unfold jF at h
 cases q:g [.int z,.lst ds] with
 |ok e=>
  rw[q] at h
  dsimp only at h
  by_cases hn:noLs e=true
  ·rw[if_pos hn] at h
   cases q2:jF g z r with
   |none=>rw[q2] at h;cases h
   |some rs'=>rw[q2] at h;cases h;exact⟨e,rs',rfl,hn,rfl,rfl⟩
  ·rw[if_neg hn] at h;nomatch h
 |ex c=>rw[q] at h;nomatch h
 |no=>rw[q] at h;nomatch h
structure HW(K:Frag)(F1 H1:Hp)(acc:Addr)(g:List D→Rs (List D))(z:Int)(es xs:List (List D))(j:Nat)(σ1:St)(Hc F2 Hm:Hp)(news rs:List (List D))(bs:List Addr):Prop where
 a1:Ext F1 H1 F2 Hm
 a2:Hm acc=none
 a3:Hc=upd Hm acc (.lst (bs.map V.ref))
 a4:Inn K F2 Hm news bs
 a5:(acc::bs).Nodup
 a6:∀b∈bs,H1 b=none
 a7:jF g z (es.drop j)=some rs
 a8:xs=news++rs
 a9:0<σ1.length∧σ1[1]?=some (some (.int z))
 ac:news.length=j
theorem MV{X:Cx}{F H:Hp}{τ:DS}{σ σ0:St}{i:Nat}{l:Addr}{as:List Addr}{es xs:List (List D)}{g:List D→Rs (List D)}{z:Int}{s0:St→St}{Q:VK}{E:XK}(R:RV X.K F τ σ H)(h5:H l=some (.lst (as.map V.ref)))(h7:Inn X.K F H es as)(hs:s0 σ=σ0)(h0:0<σ0.length∧σ0[1]?=some (some (.int z)))(hx:jF g z es=some xs)(hz:es.length<sizeLine)
  (k:∀acc F2 Hm bs,Ext F H F2 Hm→Hm acc=none→H acc=none→F2 acc=none→Inn X.K F2 Hm xs bs→(acc::bs).Nodup→(∀b∈bs,H b=none)→Q (.ref acc) (upd Hm acc (.lst (bs.map V.ref)))) :
  ∀acc,H acc=none→∃W:Nat→Nat→St→Hp→Prop,(∃m,W 0 m (s0 σ) (upd H acc (.lst [])))∧∀i m σ1 Hc,W i m σ1 Hc →
   ((Itl X.K l).stop i Hc∧Q (.ref acc) Hc)∨((Itl X.K l).go i Hc∧∀x H',(Itl X.K l).yld i Hc x H'→Zc 0 x σ1 H' fun σ2 H2=>(fun (_:St) (H:Hp) (Q:Bool→Hp→Prop)=>Q true H) σ2 H2 fun b H3=>
    if b=true then UF (spN X.K 2 g) [] E (ZG (xf 1) (ZG (xf 0) JN)) σ2 H3 fun y H4=>∃ys,H4 acc=some (.lst ys)∧ys.length<sizeLine∧∃m',m'<m∧W (i+1) m' σ2 (upd H4 acc (.lst (ys++[y]))) else ∃m',m'<m∧W (i+1) m' σ2 H3):=by
 intro acc hacc
 refine⟨fun j m σ1 Hc=>m=es.length-j∧j≤es.length∧∃F2 Hm news rs bs,HW X.K F H acc g z es xs j σ1 Hc F2 Hm news rs bs,⟨es.length,by simp,Nat.zero_le _,F,H,[],xs,[],Ext.refl R.fh,hacc,rfl,trivial,by simp,by simp,hx,rfl,by rw[hs];exact h0,rfl⟩,?_⟩
 rintro j m σ1 Hc ⟨rfl,hj,F2,Hm,news,rs,bs,w⟩
 obtain⟨x2,hm,rfl,hI,nd,hn,cl,ex,⟨hσ0,hσ1⟩,hnl⟩:=w
 have hla:l≠acc:=fun y=>by subst y;rw[hacc] at h5;nomatch h5
 have hl':upd Hm acc (.lst (bs.map V.ref)) l=some (.lst (as.map V.ref)):=by rw[zj hla];exact x2.hh _ _ h5
 have F2a:F2 acc=none:=zF x2.fh hm
 by_cases hlt:j<es.length
 ·have hd:es.drop j=es[j]::es.drop (j+1):=List.drop_eq_getElem_cons hlt
  rw[hd] at cl
  obtain⟨e1,rs',g1,g2,g3,rfl⟩:=Qp cl
  refine X23 (h7.at (k:=j) (ds:=es[j]) (by simp[hlt])) fun b ws z1 z3 z4 z5=>?_
  have ha:(as.map V.ref)[j]?=some (.ref b):=by rw[List.getElem?_map,z1];rfl
  refine .inr ⟨⟨_,_,SqL.of hl',ha⟩,fun x H' yy=>?_⟩
  obtain⟨e0,yy⟩:=yy
  subst e0
  have ey:=yy _ (SqL.of hl')
  rw[ha] at ey;replace ey:=sI_ ey;subst ey
  dsimp only [Zc]
  rw[if_pos rfl]
  have hba:b≠acc:=fun y=>by subst y;rw[hacc] at z3;nomatch z3
  have hb':upd Hm acc (.lst (bs.map V.ref)) b=some (.lst ws):=by rw[zj hba];exact x2.hh _ _ z3
  have F2b:F2 b=none:=by
   cases q:F2 b with
   |none=>rfl
   |some u=>
    rcases x2.nw b u q with y|y
    ·rw[z4] at y;nomatch y
    ·rw[z3] at y;nomatch y
  have xo:Ext F2 Hm F2 (upd Hm acc (.lst (bs.map V.ref))):=Ext.open x2.fh hm
  have L:Lent F2 (upd Hm acc (.lst (bs.map V.ref))) [b]:=fun y hy=>by
   have:y=b:=by simpa using hy
   subst this;exact⟨F2b,ws,hb'⟩
  have t2:TbT F2 (upd Hm acc (.lst (bs.map V.ref))):=xo.tt (x2.tt R.tt)
  refine⟨_,by rw[List.getElem?_set_ne (by decide)];exact hσ1,_,List.getElem?_set_self hσ0,?_⟩
  refine⟨rfl,[.int z,.lst es[j]],Zv F2 (upd Hm acc (.lst (bs.map V.ref))) [b],L.fh xo.fh,L.tt t2,Reps.cons (by simp only[Rep]) (Reps.cons ?_ Reps.nil),?_⟩
  ·simp only[Rep]
   exact Y22 b ws rfl (by rw[wO (by simp)];exact hb') ((z5.mono x2.ff).mono L.ff)
  ·rw[g1]
   intro p xs' F' H' x3 hp r3
   have y3:=L.back t2 x3
   obtain⟨y4,y5⟩:=uQ x2 hm y3
   have hpa:p≠acc:=fun y=>by subst y;rw[y3.hh _ _ zp] at hp;nomatch hp
   have hac:H' acc=some (.lst (bs.map V.ref)):=y3.hh _ _ zp
   have hp1:xC H' acc p=none:=by rw[wG hpa];exact hp
   have Fp:unl F' [b] p=none:=zF y4.fh hp1
   have hpb:p∉bs:=fun y=>by
    refine X01 (hI.own y) fun _ r103_=>?_;refine X10 r103_ fun ws' q=>?_
    have:p≠acc:=hpa
    have:=y3.hh p _ (show upd Hm acc (.lst (bs.map V.ref)) p=some (.lst ws') by rw[zj hpa];exact q)
    rw[hp] at this;cases this
   refine⟨bs.map V.ref,by rw[zj (Ne.symm hpa)];exact hac,by rw[List.length_map,← hI.len,hnl];lia,es.length-(j+1),by lia,rfl,hlt,unl F' [b],upd (xC H' acc) p (.lst xs'),news++[e1],rs',bs++[p],y4.trans (Ext.open y4.fh hp1),?_,?_,?_,?_,?_,g3,?_,?_,?_⟩
   ·rw[zj (Ne.symm hpa)];exact wz _ _
   ·funext y
    by_cases y1:y=acc
    ·subst y1;rw[zp,zp];simp
    ·rw[zj y1,zj y1]
     by_cases y2:y=p
     ·subst y2;rw[zp,zp]
     ·rw[zj y2,zj y2,wG y1]
   ·refine Inn.app zp Fp (unl_reps (fun c hc=>?_) e1 xs' g2 r3) (hI.keep (xo.ff.trans y3.ff) fun y ws' hy y1 y2=>⟨?_,?_⟩)
    ·have:c=b:=by simpa using hc
     subst this
     exact⟨ws,x3.ff _ _ (by rw[wO (by simp)];exact hb')⟩
    ·have n1:y≠p:=fun w=>hpb (by rw[← w];exact hy)
     have n2:y≠acc:=fun w=>(List.nodup_cons.mp nd).1 (by rw[← w];exact hy)
     rw[zj n1,wG n2]
     exact y3.hh y _ (by rw[zj n2];exact y1)
    ·have n2:y≠acc:=fun w=>(List.nodup_cons.mp nd).1 (by rw[← w];exact hy)
     cases q:unl F' [b] y with
     |none=>rfl
     |some u=>
      rcases y3.nw y u q with w|w
      ·rw[y2] at w;nomatch w
      ·rw[zj n2,y1] at w;nomatch w
   ·obtain⟨n1,n2⟩:=List.nodup_cons.mp nd
    refine List.nodup_cons.mpr ⟨fun w=>?_,List.nodup_append.mpr ⟨n2,by simp,fun y hy w hw=>?_⟩⟩
    ·rcases List.mem_append.mp w with w|w
     ·exact n1 w
     ·exact hpa (by simpa using w:acc=p).symm
    ·have:w=p:=by simpa using hw
     subst this;exact fun q=>hpb (by rw[← q];exact hy)
   ·intro y hy
    rcases List.mem_append.mp hy with w|w
    ·exact hn y w
    ·have:y=p:=by simpa using w
     subst this
     exact xm y4.hh hp1
   ·rw[ex,List.append_assoc];rfl
   ·exact⟨by rw[List.length_set];exact hσ0,by rw[List.getElem?_set_ne (by decide)];exact hσ1⟩
   ·rw[List.length_append,hnl];rfl
 ·have e:j=es.length:=by lia
  subst e
  rw[List.drop_length] at cl
  cases cl
  rw[List.append_nil] at ex
  subst ex
  exact .inl ⟨⟨_,SqL.of hl',by rw[List.length_map,← h7.len];exact Nat.le_refl _⟩,k acc F2 Hm bs x2 hm hacc F2a hI nd hn⟩
theorem TL{Y:Cx}{e1 e2:Expr}{k:Nat}{ps:List Str}{g:List D→Rs (List D)}{x:Str}{p pos:Pos}(D:DefN Y.prog Y.w Y.K Y.mg Y.base x k 2 ps g)(hr:Room k Y.A)(h1:PE Y e1 (xf 1))(h2:PE Y e2 (xf 0))(hg:Gl Y x:=by rfl)(hdb:(x==("__debug__" : Str))=false:=by decide)
  (he1:starEach [e1,e2] Y.env=(false,eval e1 Y.env)::starEach [e2] Y.env:=by rfl) (he2:starEach [e2] Y.env=(false,eval e2 Y.env)::starEach [] Y.env:=by rfl) (hpl:(backTo pos (starEach [e2] Y.env)).any (·.1)=false:=by rfl) :
  PE Y (.Call (.Name x p) [e1,e2] [] pos) (UF (spN Y.K 2 g) [] E0 (ZG (xf 1) (ZG (xf 0) JN))):=by
 refine X23 D fun f fd F hb hk hm=>?_
 exact ZQ F hr hg hm hk hb .nil (E:=E0) j9 (xD h1 (xD h2 vb he2) he1) hdb he1 hpl
noncomputable def QV(i kn:Nat)(c f:Str)(g:List D→Rs (List D)):FS:=fun τ=>Fl.of (Qi τ i c f) fun p=>match τ[kn]? with
 | some (some (.val (.int z)))=>(match jF g z p.2.2 with
  |some xs=>if p.2.1.length<1000∧p.2.2.length<sizeLine then .nx (τ.set i (some (.obj p.1 c (xH f (.lst (xs.map D.lst)) p.2.1)))) else .no
  |none=>.no)
 |_=>.no
section
variable{X:Cx}{i kn:Nat}{c f x lv nm:Str}{C:Addr}{elt:Expr}{scope:Scope}{g:List D→Rs (List D)}{p1 p2 p3 lp tp pos pos':Pos}
theorem TU(hx1:PE X (.Name x p1) (xf i))(hx2:PE X (.Name x p2) (xf i))(hC:nsIn X.K mainGlobals c=some (some (.ref C)))(cl:Cls X.K C)(na:NoAttr X.K C f)(hb:vT X.env.scope scope=true)(hc:X.calm=true)(hfr:FreeOk scope X.N [nm] [kn])
  (hg:∀s H C fp,PG (X.comp scope ([lv]++[nm]) s H C fp) (.Name lv tp) (Zc 0)) (he:∀s H C fp,PE (X.comp scope ([lv]++[nm]) s H C fp) elt (UF (spN X.K 2 g) [] E0 (ZG (xf 1) (ZG (xf 0) JN)))) (ho:Tabs.own c f=false∧Tabs.own2 c f=true)
  (hs:∀x',foldedSetIterable (.Attribute (.Name x p2) f p3) X.env x'=pure x':=by intro _;rfl) (hsw:swapsWith (.ListComp elt [⟨.Name lv tp,.Attribute (.Name x p2) f p3,[],0⟩] scope lp) (some (.Attribute (.Name x p1) f pos')) pos.line X.env=pure false:=by rfl) :
  PDS X (.Assign [.Attribute (.Name x p1) f pos'] (.ListComp elt [⟨.Name lv tp,.Attribute (.Name x p2) f p3,[],0⟩] scope lp) pos) (QV i kn c f g):=
 PS.imp (VY hx1 (Xi (s0:=wf 1 [kn]) (g:=Zc 0) (ti:=fun _ H Q=>Q true H) (te:=UF (spN X.K 2 g) [] E0 (ZG (xf 1) (ZG (xf 0) JN))) (xV hb) hc (fun σ _=>by simp[wf]) (uV (tn:=[lv]) hfr) (Q3 (jk hx2)) hg (fun s H C fp=>Q1) he hs) hsw) fun E σ H z_=>by
  refine X41 z_ fun B Z F τ R h=>?_
  obtain⟨n,fs,es,a,C',dx,vs,l,as,h0,h1,h2,h3,h4,h5,h6,h7,nd0,h8⟩:=Xl R.rv ho (Post.of h)
  obtain rfl:C=C':=by rw[hC] at h3;replace h3:=PySem.Value.ref.inj (Option.some.inj (Option.some.inj h3));subst h3;rfl
  dsimp only at h8
  split at h8
  ·rename_i z hz
   cases q:jF g z es with
   |none=>rw[q] at h8;exact h8.elim
   |some xs=>
    rw[q] at h8
    dsimp only at h8
    by_cases hcc:fs.length<1000∧es.length<sizeLine
    ·rw[if_pos hcc] at h8
     refine X11 (R.rv.val kn _ hz) fun v v1 v2=>?_
     simp only[Rep] at v2
     subst v2
     refine⟨_,h1,a,C,dx,vs,.ref l,rfl,h2,cl,na,h4,l,rfl,⟨_,SqL.of h5⟩,?_⟩
     refine MV (i:=i) (E:=E0) (Q:=fun y H1=>xf i σ H1 fun x H2=>∃a C dx fs,x=.ref a∧H2 a=some (.ins C dx fs)∧Cls X.K C∧NoAttr X.K C f∧fs.length<1000∧E.nx σ (upd H2 a (.ins C dx (yU f y fs)))) R.rv h5 h7 rfl ⟨show 0<(wf 1 [kn] σ).length by simp[wf],show(wf 1 [kn] σ)[1]?=_ by simp[wf,v1]⟩ q hcc.2 fun acc F2 Hm bs x hm hacc F2a hI nd hn=>?_
     have haa:a≠acc:=fun y=>by subst y;rw[hacc] at h2;nomatch h2
     have h2m:upd Hm acc (.lst (bs.map V.ref)) a=some (.ins C dx vs):=by rw[zj haa];exact x.hh _ _ h2
     refine X11 (R.rv.ob.at_ i n c fs h0) fun a' y1 r104_=>?_;refine X35 r104_ fun C2 dx2 vs2 y2 y3 y4 y5 y6 y7=>?_
     rw[h1] at y1;replace y1:=tI_ y1;subst y1
     rw[h2] at y2;cases y2
     have F2q:F2 a=none:=by
      cases q:F2 a with
      |none=>rfl
      |some u=>
       rcases x.nw a u q with w|w
       ·rw[y3] at w;nomatch w
       ·rw[h2] at w;nomatch w
     refine⟨_,h1,a,C,dx,vs,rfl,h2m,cl,na,by rw[← y5.length];exact hcc.1,h8 σ F2 _ x.ff ?_⟩
     have xo:Ext F2 Hm F2 (upd Hm acc (.lst (bs.map V.ref))):=Ext.open x.fh hm
     refine R.new3 (p:=acc) (as:=bs) ho h0 h1 h2 zp x.ff (fun b o e=>?_) ((xo.tt (x.tt R.rv.tt)).ins h2m) (fun b u y1 e=>?_) x.nw hacc F2a hn ?_ (hI.keep (Same.refl F2) fun b ws hb' y1 y2=>⟨?_,y2⟩) nd
     ·have:b≠a:=fun w=>by subst w;rw[F2q] at e;nomatch e
      rw[zj this];exact xo.fh b o e
     ·rw[zj y1,zj (zC e hacc)];exact x.hh b u e
     ·rw[zj (Ne.symm haa)];exact zp
     ·have n1:b≠a:=fun w=>by subst w;rw[hn _ hb'] at h2;nomatch h2
      have n2:b≠acc:=fun w=>(List.nodup_cons.mp nd).1 (by rw[← w];exact hb')
      rw[zj n1,zj n2];exact y1
    ·rw[if_neg hcc] at h8;exact h8.elim
  ·exact h8.elim
end
end FD
set_option Elab.async false
set_option linter.all false
namespace STW
open PySem
noncomputable abbrev Ris(l:List Nat):Prop:=l.Pairwise (· < ·)
noncomputable def TT(L:Bool)(t:SetTable):Prop:=t.led=L∧t.dummies = #[]∧Ris t.place.toList
section
variable{prog:Program}{w:World}{K:Type}[DecidableEq K]{knd:KeyKind prog w K}{A:Around}{E:Value→Shared→Prop}{s:Shared}{L:Bool}{a:Addr}{S:K→Bool}{n:Nat}{k:K}{x:Value}
end
open PyProof.Rows
section
variable{prog:Program}{w:World}{A:Around}{R:Result→Shared→Prop}{I:Addr}{fp wr:List Addr}{G:Array GenState→Array GenState→Prop}{n:Nat}{P:Nat→Value→Prop}{St:Nat→Shared→Prop}{L:Bool}
end
section
variable{prog:Program}{w:World}{A:Around}{E:Value→Shared→Prop}{s:Shared}
end
open PyProof.Rows
section
variable{prog:Program}{w:World}{A:Around}{E:Value→Shared→Prop}{s:Shared}
end
open PyProof.Rows
namespace FS
end FS
section
variable{prog:Program}{w:World}{A:Around}{E:Value→Shared→Prop}{s:Shared}
end
open PySem PyProof.Rows
section
variable{prog:Program}{w:World}{A:Around}{E:Value→Shared→Prop}{s:Shared}{I a:Addr}{es:Array (Int×Value)}{ep:Nat}{t:SetTable}{Q:Option Value→Shared→Prop}
end
open PySem PyProof.Rows
section
variable{prog:Program}{w:World}{A:Around}{E:Value→Shared→Prop}{s:Shared}{I a:Addr}{es:Array (Int×Value)}{ep:Nat}{t:SetTable}
end
open PySem PyProof.Rows
section
variable{prog:Program}{w:World}{A:Around}{E:Value→Shared→Prop}{s:Shared}{I a T:Addr}{es:Array (Int×Value)}{ep:Nat}{t:SetTable}{Q:Option Value→Shared→Prop}
end
open PySem PyProof.Rows
section
variable{prog:Program}{w:World}{A:Around}{E:Value→Shared→Prop}{s:Shared}{a:Addr}{es:Array (Int×Value)}{ep:Nat}{t:SetTable}
end
open PySem PyProof.Rows
section
variable{prog:Program}{w:World}{A:Around}{E:Value→Shared→Prop}{s:Shared}{a:Addr}{es:Array (Int×Value)}{ep:Nat}{t:SetTable}
end
open PySem PyProof.Rows
section
variable{prog:Program}{w:World}{A:Around}{E:Value→Shared→Prop}{s:Shared}{a:Addr}{es:Array (Int×Value)}{ep:Nat}{t:SetTable}
end
open PySem PyProof.Rows
section
variable{prog:Program}{w:World}{A:Around}{E:Value→Shared→Prop}{s:Shared}{a:Addr}{ns:List Int}{n:Nat}
end
end STW
set_option Elab.async false
set_option linter.all false
set_option maxRecDepth 100000
namespace FD
open PySem PySem.Spec PyProof.Rows L2
section
variable{X:Cx}{e:Expr}{pos:Pos}{fs:FA}
end
section
variable{X:Cx}
end
end FD
set_option Elab.async false
set_option linter.all false
namespace L2
open PySem PySem.Spec PyProof.Rows
section
variable{κ:Type}[DecidableEq κ]
end
section
variable{P:Program}{w:World}{H:Hp}{h:Heap}{a:Addr}
end
section
variable{X:Cx}{pins:List (Addr×Obj)}{σ:St}{H:Hp}{s:Shared}{a:Addr}{y v:V}{u r:Value}{o:Option V}{A:Around}{E:Value→Shared→Prop}
end
section
variable{X:Cx}{pins:List (Addr×Obj)}{σ:St}{H:Hp}{s:Shared}{a:Addr}{kvs:List (Key×V)}{k:Key}{u:Value}{A:Around}{E:Value→Shared→Prop}
end
section
variable{X:Cx}{o i e value:Expr}{pos pos' tpos:Pos}{td ty tv:TE}
end
section
variable{X:Cx}{pos:Pos}
end
section
variable{X:Cx}{pins:List (Addr×Obj)}{σ:St}{H:Hp}{s:Shared}{a:Addr}{y d:V}{u r:Value}{o:Option V}{A:Around}{E:Value→Shared→Prop}
end
section
variable{X:Cx}{o e f:Expr}{apos cpos:Pos}{td ty tx:TE}
end
section
variable{X:Cx}{pins:List (Addr×Obj)}{σ:St}{H:Hp}{s:Shared}{a:Addr}{kvs:List (Key×V)}{A:Around}{E:Value→Shared→Prop}
end
section
variable{X:Cx}{pins:List (Addr×Obj)}{σ:St}{H:Hp}{s:Shared}{a:Addr}{y:V}{u:Value}{A:Around}{E:Value→Shared→Prop}
end
section
variable{κ:Type}[DecidableEq κ]
end
end L2
set_option Elab.async false
set_option linter.all false
set_option maxRecDepth 100000
namespace STW
open PySem PyProof.Rows
section
variable{prog:Program}{w:World}{K:Type}[DecidableEq K]{knd:KeyKind prog w K}{A:Around}{E:Value→Shared→Prop}{s:Shared}{d:Addr}{kvs:List (K×Value)}{ep:Nat}
end
section
variable{prog:Program}{w:World}{K:Type}[DecidableEq K]{knd:KeyKind prog w K}{A:Around}{E:Value→Shared→Prop}{s:Shared}{d:Addr}{kvs:List (K×Value)}{ep:Nat}{ns:List Int}{b:Bool}
end
end STW
set_option Elab.async false
set_option linter.all false
set_option maxRecDepth 100000
namespace FD
open PySem PySem.Spec PyProof.Rows L2
section
variable{X:Cx}{pos pp kp p1 p2:Pos}{kk:Nat}
end
section
variable{X:Cx}{i:Nat}{y:Str}{e0 e0' e0'' e1:Expr}{f0 f1:FE}{q1 q2 q3 cp sp sp2 lp ap ip atp callp xp:Pos}
end
section
variable{X:Cx}{i r:Nat}{x y:Str}{e0 e0' e0'' e1 iter:Expr}{fi:FA}{q1 q2 q3 cp sp sp2 lp ap ip atp callp xp tp pos:Pos}
end
section
variable{X:Cx}{i r:Nat}{x y c:Str}{iter elt:Expr}{fi:FA}{body:List Stmt}{scope:Scope}{yp tp dp a1 fp rp cpos cp sp p1 p2 kp:Pos}{kk:Nat}
end
end FD
set_option Elab.async false
set_option linter.all false
set_option maxRecDepth 100000
namespace STW
open PySem PyProof.Rows
section
variable{prog:Program}{w:World}{K:Type}[DecidableEq K]{knd:PySem.KeyKind prog w K}{A:Around}{E:Value→Shared→Prop}{s:Shared}{d:Addr}{kvs:List (K×Value)}{ep:Nat}{ss:List Str}
end
end STW
set_option Elab.async false
set_option linter.all false
set_option maxRecDepth 100000
namespace FD
open PySem PySem.Spec PyProof.Rows L2
section
variable{X:Cx}
end
noncomputable abbrev FG2:=DS→List Str→Option (DS×List Str)
section
variable{X:Cx}{i r:Nat}{x y:Str}{e0 iter:Expr}{fk:FE}{fi:FA}{f:FG2}{q1 sp bp ap tp pos:Pos}{kk:Nat}{body:List Stmt}
end
section
variable{X:Cx}{i r:Nat}{x y sx:Str}{iter:Expr}{f:FG2}{st:Stmt}{yp dp a1 rp p1 pos pp:Pos}
end
end FD
set_option Elab.async false
set_option linter.all false
set_option maxRecDepth 100000
namespace STW
open PySem PyProof.Rows
section
variable{prog:Program}{w:World}{A:Around}{R:Result→Shared→Prop}{I:Addr}{fp wr:List Addr}{G:Array GenState→Array GenState→Prop}{n:Nat}{P:Nat→Value→Prop}{St:Nat→Shared→Prop}{L:Bool}
end
section
variable{prog:Program}{w:World}{A:Around}{E:Value→Shared→Prop}{s:Shared}
end
section
variable{prog:Program}{w:World}{A:Around}{E:Value→Shared→Prop}{s:Shared}{a:Addr}{ns:List Str}{n:Nat}
end
end STW
set_option Elab.async false
set_option linter.all false
set_option maxRecDepth 100000
namespace FD
open PySem PySem.Spec PyProof.Rows L2
section
variable{X:Cx}{e:Expr}{pos:Pos}{fs:FA}
end
end FD
set_option Elab.async false
set_option linter.all false
set_option maxRecDepth 100000
namespace STW
open PySem PyProof.Rows
section
variable{prog:Program}{w:World}{K:Type}[DecidableEq K]{knd:KeyKind prog w K}{A:Around}{E:Value→Shared→Prop}{s:Shared}{d:Addr}{kvs:List (K×Value)}{ep:Nat}
end
end STW
set_option Elab.async false
set_option linter.all false
set_option maxRecDepth 100000
namespace FD
open PySem PySem.Spec PyProof.Rows L2
section
variable{X:Cx}{pos apos cpos:Pos}{e o f tg:Expr}{fe fo ff:FE}
end
noncomputable abbrev SI:=List (Str×Int)
noncomputable abbrev FG3:=DS→SI→Option (DS×SI)
section
variable{X:Cx}{i r:Nat}{x y:Str}{e0 e0' ev iter:Expr}{fk fv:FE}{fi:FA}{f:FG3}{q1 q2 sp bp ap tp pos gp gc c0 c1 cp ip:Pos}{k0 k1:Nat}{body:List Stmt}
end
section
variable{X:Cx}{i:Nat}{y:Str}{f:FG3}{st:Stmt}{yp dp a1 rp p1:Pos}
end
section
variable{X:Cx}{pos p1 p2:Pos}{k1 k2:Nat}{x:Str}{n:Int}
end
section
variable{prog:Program}{w:World}{A:Around}{R:Result→Shared→Prop}{E:Value→Shared→Prop}{I S:Addr}{fp wr:List Addr}{n:Nat}{P:Nat→Value→Prop}{St:Nat→Heap→Prop}{kw:List (Str×Value)}{Ph:Heap→Prop}
end
section
variable{X:Cx}{pos pp kp:Pos}{e e2:Expr}{fe f2:FE}
end
section
open PySem.SeqAt
open PySem.AutoSeq1 (wpAny_loadPart')
open PySem.MeetsSeq PySem.MeetsSeq2 PySem.MeetsSeq3
end
section
variable{prog:Program}{w:World}{A:Around}{E:Value→Shared→Prop}{s:Shared}
end
section
variable{X:Cx}
end
section
variable{X:Cx}
end
section
variable{X:Cx}
end
end FD
set_option Elab.async false
set_option linter.all false
set_option maxRecDepth 100000
namespace STW
open PySem PyProof.Rows
section
variable{prog:Program}{w:World}{K:Type}[DecidableEq K]{knd:KeyKind prog w K}{A:Around}{R:Result→Shared→Prop}{I d:Addr}{fp wr:List Addr}{n:Nat}{P:Nat→Value→Prop}{St:Nat→Heap→Prop}
end
section
variable{prog:Program}{w:World}{K:Type}[DecidableEq K]{knd:KeyKind prog w K}{A:Around}{E:Value→Shared→Prop}{s:Shared}
end
end STW
set_option Elab.async false
set_option linter.all false
set_option maxRecDepth 100000
namespace FD
open PySem PySem.Spec PyProof.Rows L2
section
variable{X:Cx}
end
section
variable{X:Cx}{e:Expr}{pos:Pos}{fs:FA}
end
open PySem.W
section
variable{n:Nat}{κ:Nat→List Int}
end
section
variable{prog:Program}{w:World}{A:Around}{E:Value→Shared→Prop}{s:Shared}
end
section
variable{X:Cx}{pins:List (Addr×Obj)}{σ:St}{F H:Hp}{τ:DS}{s:Shared}{Q:VK}{E:Value→Shared→Prop}
end
section
variable{P:Program}{w:World}{K:Frag}{mg:Str→Option Value}{base:Heap}
end
section
variable{X:Cx}{pos:Pos}{e a b:Expr}{es rest:List Expr}{fe fb:FE}{fs:FA}{c m x:Str}{i k n:Nat}{ps:List Str}{fo:FOb}
end
section
variable{X:Cx}{pins:List (Addr×Obj)}{σ:St}{H:Hp}{s:Shared}{a:Addr}{cls:Value}
end
section
variable{X:Cx}
noncomputable def QS(X:Cx)(st:Stmt)(t:TS):Prop:=∀(pins:List (Addr×Obj)) (s:Shared) (σ:St) (H:Hp) (D:WT),0<s.toks→Inv X pins σ H s→t D σ H→wpAny (model X.prog X.w) X.A (exec st X.env) (SP X pins D) X.xe s
variable{e a b o:Expr}{rest:List Expr}{pos apos cpos:Pos}{t u:TS}{te ta tb:TE}{tA tB':TT}
end
section
variable{X:Cx}{e a b o c:Expr}{es rest:List Expr}{pos apos cpos:Pos}{fe fa fb:FE}{ga gb:FT}{f g:FS}{st:Stmt}{sts:List Stmt}
end
section
variable{X:Cx}{pos:Pos}{i j:Nat}{c f x y:Str}{C:Addr}{sts:List Stmt}{g:FS}
end
section
variable{P:Program}{w:World}{K:Frag}{mg:Str→Option Value}{base:Heap}
end
section
variable{X:Cx}{pos:Pos}{c x y:Str}{i j k:Nat}{ps:List Str}
end
section
variable{X:Cx}{pos p3:Pos}{e:Expr}{fe:FE}
noncomputable def zs2(fe:FE):FA:=fun τ=>(fe τ).bind fun d=>match d with
 |.lst ds=>.ok ds
 |_=>.no
theorem Mi(hg:Gl X "list")(hm:X.mg "list" = none)(h:PDE X e fe)(he:starEach [e] X.env=(false,eval e X.env)::starEach [] X.env:=by rfl)(hpl:(backTo pos (starEach [] X.env)).any (·.1)=false:=by rfl) :
  PDF X (.Call (.Name "list" p3) [e] [] pos) (zs2 fe):=
 PE.imp (pe_callTy Yi hg hm boot_list (xD h vb he) (he:=he) (hpl:=hpl)) fun σ H Q z_=>by
  refine X21 z_ fun F τ R q=>?_
  refine tE.of R q.bind fun d v F1 H1 g x R1 r=>?_
  cases d with
  |lst ds=>
   simp only[Rep] at r
   obtain⟨a,vs,rfl,e1,t⟩:=r
   exact Y22 a vs rfl (.inl (SqL.of (R1.fh _ _ e1))) (fun l hl=>g l vs F1 H1 x hl t)
  |_=>exact g.elim
end
noncomputable def jK(set:FG)(fo:FOb):List D→DS→Rs (List D×DS)
 |[],τ=>.ok ([],τ)
 |d::r,τ=>match set d τ with
  |.ok τ1=>match fo τ1 with
   | .ok (x,τ2)=>match jK set fo r τ2 with
    | .ok (xs,τ3)=>.ok (x::xs,τ3)
    |_=>.no
   |_=>.no
  |_=>.no
noncomputable def zl7:Option (Option Sl)→Option Sl
 | some (some (.val d))=>some (.val d)
 |_=>none
noncomputable def Wx(k:Nat)(idx:List Nat)(p:Nat)(s:Sl)(τ:DS):DS:=(List.replicate k none++idx.map fun j=>zl7 τ[j]?).set p (some s)
noncomputable def Ve(k:Nat)(idx:List Nat)(i p:Nat)(c:Str)(fi:FA)(set:FG)(fo:FOb):FOb:=fun τ=>(v0 τ i c).bind fun o=>(fi τ).bind fun ds=>
 match jK set fo ds (Wx k idx p (.obj 1 c o.2) τ) with
 | .ok (xs,τe)=>(match v0 τe p c with
  | .ok (m,fs')=>if m=1∧xs.length≤sizeLine then .ok (.lst xs,τ.set i (some (.obj o.1 c fs'))) else .no
  |_=>.no)
 |_=>.no
noncomputable def vL(τ:DS):Prop:=∀(i:Nat) c fs,τ[i]?≠some (some (.obr c fs))
theorem Vg{τ:DS}{i:Nat}{s:Option Sl}(h:vL τ)(hs:∀c fs,s≠some (.obr c fs)):vL (τ.set i s):=fun j c fs e=>by
 by_cases hij:i=j
 ·subst hij
  rw[List.getElem?_set] at e
  simp only[if_true] at e
  split at e
  ·injection e with e;exact hs c fs e
  ·nomatch e
 ·rw[List.getElem?_set_ne hij] at e;exact h j c fs e
theorem Lk(i:Nat):∀d τ τ',gNm i d τ=.ok τ'→vL τ→vL τ':=fun d τ τ' h n=>by
 unfold gNm at h;replace h:=oI_ h;subst h;exact Vg n (fun _ _ h=>by nomatch h)
theorem Qe{i:Nat}{c m:Str}{g:Fs→List D→Rs (D×Fs)}{fs:FA}:∀τ d τ',wu i c m g fs τ=.ok (d,τ')→vL τ→vL τ':=fun τ d τ' h n=>by
 unfold wu at h
 cases e:v0 τ i c with
 |ok p=>
  rw[e] at h
  simp only[Rs.bind] at h
  split at h
  ·cases e1:fs τ with
   |ok d1=>
    simp only[e1] at h
    split at h
    ·cases h;exact Vg n (fun _ _ h=>by nomatch h)
    ·nomatch h
   |ex _=>simp only[e1] at h;nomatch h
   |no=>simp only[e1] at h;nomatch h
  ·nomatch h
 |ex _=>rw[e] at h;cases h
 |no=>rw[e] at h;cases h
theorem uE{k p q:Nat}{idx:List Nat}{s0 s:Sl}{τ:DS}(h:(Wx k idx p s0 τ)[q]?=some (some s)):(q=p∧s=s0)∨(q≠p∧∃d j,s=.val d∧k≤q∧idx[q-k]?=some j∧τ[j]?=some (some (.val d))):=by
 unfold Wx at h
 by_cases e:p=q
 ·subst e
  rw[List.getElem?_set] at h
  simp only[if_true] at h
  split at h
  ·replace h:=uI_ h;subst h;exact .inl ⟨rfl,rfl⟩
  ·nomatch h
 ·rw[List.getElem?_set_ne e] at h
  refine .inr ⟨fun z=>e z.symm,?_⟩
  by_cases hi:q<k
  ·rw[List.getElem?_append_left (by simpa using hi),List.getElem?_replicate] at h
   simp[hi] at h
  ·rw[List.getElem?_append_right (by simpa using hi),List.getElem?_map] at h
   simp only[List.length_replicate] at h
   cases z:idx[q-k]? with
   |none=>rw[z] at h;cases h
   |some j=>
    rw[z] at h
    simp only[Option.map_some,Option.some.injEq] at h
    unfold zl7 at h
    split at h
    ·rename_i d hd;replace h:=sI_ h;subst h;exact⟨d,j,rfl,by lia,rfl,hd⟩
    ·nomatch h
theorem UM{k q j:Nat}{idx:List Nat}{σ:St}{v:V}(hk:k≤q)(hj:idx[q-k]?=some j)(h:σ[j]?=some (some v)):(wf k idx σ)[q]?=some (some v):=by
 unfold wf
 rw[List.getElem?_append_right (by simpa using hk),List.getElem?_map]
 simp[hj,h]
theorem Mb{K:Frag}{F H:Hp}{τ:DS}{σ:St}{k i p n:Nat}{idx:List Nat}{c:Str}{o:Fs}{a:Addr}(R:RV K F τ σ H)(hk:k≤p)(hp:idx[p-k]?=some i)(hi:τ[i]?=some (some (.obj n c o)))(ha:σ[i]?=some (some (.ref a))) :
  RS K (wY H c a) F F (Wx k idx p (.obj 1 c o) τ) (wf k idx σ) H:=by
 refine X11 (R.ob.at_ i n c o hi) fun a' q1 ob=>?_
 obtain rfl:a'=a:=by rw[ha] at q1;replace q1:=tI_ q1;subst q1;rfl
 have sp:(wf k idx σ)[p]?=some (some (.ref a')):=UM hk hp ha
 have only:∀{j:Nat} {s:Sl},Jj (some s)=true→(Wx k idx p (.obj 1 c o) τ)[j]?=some (some s)→j=p∧s=.obj 1 c o:=fun {j s} hs h=>by
  rcases uE h with e|⟨_,d,j',e,_⟩
  ·exact e
  ·subst e;cases hs
 have onlyS:∀{j:Nat} {c':Str},ObS (Wx k idx p (.obj 1 c o) τ)[j]? c'→j=p:=fun {j c'} h=>by
  rcases h with ⟨n,fs,h⟩|⟨fs,h⟩
  ·exact(only rfl h).1
  ·exact(only rfl h).1
 have noown:∀{j:Nat} {es:List D},(Wx k idx p (.obj 1 c o) τ)[j]?=some (some (.own es))→False:=fun {j es} h=>by
  rcases uE h with ⟨_,e⟩|⟨_,d,j',e,_⟩ <;> cases e
 have noobr:∀{j:Nat} {c':Str} {fs:Fs},(Wx k idx p (.obj 1 c o) τ)[j]?=some (some (.obr c' fs))→False:=fun {j c' fs} h=>by
  rcases uE h with ⟨_,e⟩|⟨_,d,j',e,_⟩ <;> cases e
 refine⟨⟨R.fh,by simp[Wx,wf],fun j d h=>?_,fun j es h=>(noown h).elim,fun j l es es' b _ h1=>(noown h1).elim,R.tt,⟨fun j m c' fs h=>?_,fun j l m c1 c2 fs b hij g1 g2 _ _=>?_,fun j c' fs h=>(noobr h).elim,fun j l m c1 c2 fs b b' u hij g1 g2=>?_,fun j l c' ds b u _ g2=>(noown g2).elim⟩⟩,We H c a',Same.refl F,fun b u e=>.inl e,fun j es b g1=>(noown g1).elim,fun j m c' fs b g1 g2=>?_,fun a0 dx b1 b2 j m c' fs g1=>?_,fun j c' fs b g1 g2=>(noobr g1).elim⟩
 ·rcases uE h with ⟨_,e⟩|⟨_,d',j',e,e1,e2,e3⟩
  ·nomatch e
  ·replace e:=FD.Sl.val.inj e;subst e
   refine X11 (R.val j' d e3) fun v v1 v2=>?_
   exact Y11 v (UM e1 e2 v1) v2
 ·obtain⟨rfl,e⟩:=only rfl h
  cases e
  exact Y11 a' sp ob
 ·exact hij ((only rfl g1).1.trans (onlyS g2).symm)
 ·exact absurd ((only rfl g1).1.trans (onlyS g2).symm) hij
 ·obtain⟨rfl,e⟩:=only rfl g1
  cases e
  rw[sp] at g2;replace g2:=tI_ g2;subst g2
  exact⟨Xo _ _ _,fun l hl=>GC hl⟩
 ·obtain⟨rfl,e⟩:=only rfl g1
  cases e
  obtain⟨C,dx',vs,q2⟩:=R.tt.2 dx a0 (Zw b1)
  by_cases z:a0=a'
  ·rw[z];exact sp
  ·have:a0∉Lof H c a':=fun y=>by
    refine X34 ob fun C2 dx2 vs2 o1 _ _ o4 _=>?_
    rw[Lof.ins o1] at y
    refine X01 (o4.own y) fun _ r105_=>?_;refine X10 r105_ fun ws q=>?_
    rw[q2] at q;nomatch q
   rw[uN z this,q2] at b2;nomatch b2
theorem RS.acc{K:Frag}{B Z F H:Hp}{τ:DS}{σ:St}{p:Addr}{vs:List V}(R:RS K B Z F τ σ H)(nr:vL τ)(hz:Z p=none)(hp:(B p=none∧H p=none)∨∃ws,B p=some (.lst ws)):RS K (upd B p (.lst vs)) Z F τ σ (upd H p (.lst vs)):=by
 have hl:H p=none∨∃ws,H p=some (.lst ws):=by
  rcases hp with ⟨_,h⟩|⟨ws,h⟩
  ·exact .inl h
  ·exact .inr ⟨ws,R.bh p _ h⟩
 have hF:F p=none:=by
  rcases hp with ⟨_,h⟩|⟨ws,h⟩
  ·exact zF R.rv.fh h
  ·cases q:F p with
   |none=>rfl
   |some o=>
    rcases R.nb p o q with z|z
    ·rw[hz] at z;nomatch z
    ·rw[h] at z;nomatch z
 have ne:∀b,B b=none→H b≠none→b≠p:=fun b h1 h2 z=>by
  subst z
  rcases hp with ⟨_,h⟩|⟨ws,h⟩
  ·exact h2 h
  ·rw[h] at h1;nomatch h1
 have hn:∀(b:Addr),b≠p→B b=none→upd B p (.lst vs) b=none:=fun b h1 h2=>by rw[zj h1];exact h2
 have apart:∀(i:Nat) (c:Str) (a:Addr),ObS τ[i]? c→σ[i]?=some (some (.ref a))→p∉Lof H c a:=fun i c a h e hm=>by
  rcases h with ⟨m,fs,h⟩|⟨fs,h⟩
  ·refine X11 (R.rv.ob.at_ i m c fs h) fun a' z1 r106_=>?_;refine X34 r106_ fun C dx ws z2 _ _ z5 _=>?_
   obtain rfl:a'=a:=by rw[e] at z1;replace z1:=tI_ z1;subst z1;rfl
   have:=(R.oo i m c fs a' h e).2 p hm
   rw[Lof.ins z2] at hm
   refine X01 (z5.own hm) fun _ r107_=>?_;refine X10 r107_ fun us z6=>?_
   exact ne p this (by rw[z6];simp) rfl
  ·exact nr i c fs h
 have kl:∀(i m:Nat) (c:Str) (fs:Fs) (a:Addr),τ[i]?=some (some (.obj m c fs))→σ[i]?=some (some (.ref a))→H a≠none∧a≠p:=fun i m c fs a h e=>by
  refine X11 (R.rv.ob.at_ i m c fs h) fun a' z1 r108_=>?_;refine X34 r108_ fun C dx ws z2 _ _ z5 _=>?_
  obtain rfl:a'=a:=by rw[e] at z1;replace z1:=tI_ z1;subst z1;rfl
  refine⟨by rw[z2];simp,fun z=>?_⟩
  subst z
  rcases hl with y|⟨_,y⟩ <;> rw[z2] at y <;> cases y
 have fh:Same F (upd H p (.lst vs)):=fun b u e=>by
  have:b≠p:=fun z=>by subst z;rw[hF] at e;nomatch e
  rw[zj this];exact R.rv.fh b u e
 refine⟨⟨fh,R.rv.len,R.rv.val,fun i es h=>?_,R.rv.dis,R.rv.tt.step (fun _ _ e=>.inl e) (fun b o e n=>?_) (wv fun _ z=>nomatch z),R.rv.ob.updL hl apart⟩,fun b o e=>?_,R.zf,fun b o e=>?_,fun i ds a h1 h2=>?_,fun i m c fs a h1 h2=>?_,fun a0 dx b1 b2 i m c fs h1=>?_,fun i c fs a h=>absurd h (nr i c fs)⟩
 ·refine X23 (R.rv.own i es h) fun a ws z1 z2 z3 z4=>?_
  have:a≠p:=ne a (R.ob i es a h z1) (by rw[z2];simp)
  exact⟨a,ws,z1,by rw[zj this];exact z2,z3,z4⟩
 ·have:b≠p:=fun z=>by
   subst z
   rcases hl with y|⟨us,y⟩
   ·rw[y] at e;nomatch e
   ·rw[y] at e;replace e:=sI_ e;subst e;exact n _ rfl
  rw[zj this];exact e
 ·by_cases z:b=p
  ·subst z;rw[zp] at e;replace e:=sI_ e;subst e;exact .of zp
  ·rw[zj z] at e ⊢;exact R.bh b o e
 ·rcases R.nb b o e with y|y
  ·exact .inl y
  ·refine .inr (hn b (fun z=>?_) y)
   subst z;rw[hF] at e;nomatch e
 ·refine X23 (R.rv.own i ds h1) fun a' ws z1 z2 z3 z4=>?_
  obtain rfl:a'=a:=by rw[h2] at z1;replace z1:=tI_ z1;subst z1;rfl
  have hb:=R.ob i ds a' h1 h2
  exact hn a' (ne a' hb (by rw[z2];simp)) hb
 ·obtain⟨k1,k2⟩:=kl i m c fs a h1 h2
  obtain⟨o1,o2⟩:=R.oo i m c fs a h1 h2
  refine⟨hn a k2 o1,fun l hl'=>?_⟩
  have e:Lof (upd H p (.lst vs)) c a=Lof H c a:=R.rv.ob.lof (.inl ⟨m,fs,h1⟩) h2 hl (apart i c a (.inl ⟨m,fs,h1⟩) h2)
  rw[e] at hl'
  exact hn l (fun z=>apart i c a (.inl ⟨m,fs,h1⟩) h2 (z ▸ hl')) (o2 l hl')
 ·have n1:dx≠p:=fun z=>by subst z;rw[zp] at b1;nomatch b1
  rw[zj n1] at b1
  have n2:a0≠p:=fun z=>by subst z;rw[zp] at b2;nomatch b2
  rw[zj n2] at b2
  exact R.sf a0 dx b1 b2 i m c fs h1
theorem upd_upd(H:Hp)(p:Addr)(x y:HO):upd (upd H p x) p y=upd H p y:=by
 funext b;unfold upd;split <;> rfl
section
variable{X:Cx}{scope:Scope}{tn fr:List Str}{idx:List Nat}{tg iter elt:Expr}{pos:Pos}{fi:FA}{set:FG}{fo:FOb}{i p:Nat}{c:Str}
structure CWE(K:Frag)(set:FG)(fo:FOb)(c:Str)(a acc:Addr)(F1 H1:Hp)(ds xs:List D)(τe:DS)(j:Nat)(σ1:St)(Hc F2:Hp)(τ1:DS)(dn rs:List D)(vs:List V):Prop where
 a1:Reps K F2 dn vs
 a2:RS K (upd (wY H1 c a) acc (.lst vs)) F1 F2 τ1 σ1 Hc
 a3:vL τ1
 a4:jK set fo (ds.drop j) τ1=.ok (rs,τe)
 a5:xs=dn++rs
theorem Qz(hk:tn.length≤p)(hp:idx[p-tn.length]?=some i)(ns:∀d τ τ',set d τ=.ok τ'→vL τ→vL τ')(no:∀τ d τ',fo τ=.ok (d,τ')→vL τ→vL τ'){Y:Cx}(hK:Y.K=X.K)(σ:St)(H:Hp)(Q:VK)(h:tOb X (Ve tn.length idx i p c fi set fo) σ H Q) :
  UE (wf tn.length idx) (tI X fi) (tG Y set) (tTs Y fun _=>.ok true) (tOb Y fo) σ H Q:=by
 obtain⟨B,Z,F,τ,R,h⟩:=h
 refine X21 (um (X:=X) (Ok.bind h)) fun t o h1 h5=>?_
 dsimp only at h5
 refine Y21 F τ R.rv (h5.bind.imp fun ds gds J F1 H1 x io acc hacc=>?_)
 have R1:=R.ext x
 refine X11 (R1.rv.ob.at_ i t c o h1) fun a q1 ob=>?_
 have obn:=ob
 refine X35 ob fun C dx ws o1 o2 o3 o4 o5 o6=>?_
 cases q:jK set fo ds (Wx tn.length idx p (.obj 1 c o) τ) with
 |no=>rw[q] at gds;exact gds.elim
 |ex c=>rw[q] at gds;exact gds.elim
 |ok xt=>
  obtain⟨xs,τe⟩:=xt
  rw[q] at gds
  dsimp only at gds
  cases qo:v0 τe p c with
  |no=>rw[qo] at gds;exact gds.elim
  |ex c=>rw[qo] at gds;exact gds.elim
  |ok mf=>
   obtain⟨m,fs'⟩:=mf
   rw[qo] at gds
   dsimp only at gds
   by_cases hm:m=1∧xs.length≤sizeLine
   ·rw[if_pos hm] at gds
    obtain⟨rfl,hz⟩:=hm
    have na:a≠acc:=fun z=>by subst z;rw[o1] at hacc;nomatch hacc
    have nd:dx≠acc:=fun z=>by subst z;rw[o5] at hacc;nomatch hacc
    have hF1:F1 acc=none:=zF x.fh hacc
    have hA:wY H1 c a acc=none:=xm (We H1 c a) hacc
    refine⟨fun j m σ1 Hc=>m=ds.length-j∧j≤ds.length∧∃F2 τ1 dn rs vs,CWE X.K set fo c a acc F1 H1 ds xs τe j σ1 Hc F2 τ1 dn rs vs,⟨ds.length,by simp,Nat.zero_le _,F1,_,[],xs,[],Reps.nil,(Mb R1.rv hk hp h1 q1).acc ?_ hF1 (.inl ⟨hA,hacc⟩),?_,q,rfl⟩,?_⟩
    ·intro j c' fs e;rcases uE e with ⟨_,e⟩|⟨_,d,j',e,_⟩ <;> cases e
    ·intro j c' fs e;rcases uE e with ⟨_,e⟩|⟨_,d,j',e,_⟩ <;> cases e
    rintro j m σ1 Hc ⟨rfl,hj,F2,τ1,dn,rs,vs,r2,R2,nr,cl,ex⟩
    obtain⟨i1,i2⟩:=io j F2 _ R2.zf R2.rv.fh
    by_cases hlt:j<ds.length
    ·have hd:ds.drop j=ds[j]::ds.drop (j+1):=List.drop_eq_getElem_cons hlt
     rw[hd,jK] at cl
     obtain⟨go,yl⟩:=i2 ds[j] (by simp[hlt])
     refine .inr ⟨go,fun y H' yy=>?_⟩
     refine X11 (yl y H' yy) fun F3 x3 r3=>?_
     refine⟨F3,τ1,ds[j],by rw[hK];exact(R2.ext x3).rv,by rw[hK];exact r3,?_⟩
     cases e1:set ds[j] τ1 with
     |no=>rw[e1] at cl;nomatch cl
     |ex c=>rw[e1] at cl;nomatch cl
     |ok τ2=>
      rw[e1] at cl
      simp only at cl
      intro σ2 _ RR _
      rw[hK] at RR
      have RR:=RR _ _ (R2.ext x3)
      have n3:=ns _ _ _ e1 nr
      refine Y21 F3 τ2 (by rw[hK];exact RR.rv) ?_
      intro F4 H4 x4
      rw[if_pos rfl]
      cases e3:fo τ2 with
      |no=>rw[e3] at cl;nomatch cl
      |ex c=>rw[e3] at cl;nomatch cl
      |ok zt=>
       obtain⟨z,τ3⟩:=zt
       rw[e3] at cl
       simp only at cl
       have n4:=no _ _ _ e3 n3
       cases e4:jK set fo (ds.drop (j+1)) τ3 with
       |no=>rw[e4] at cl;nomatch cl
       |ex c=>rw[e4] at cl;nomatch cl
       |ok rt=>
        obtain⟨rs',τ4⟩:=rt
        rw[e4] at cl
        have ers:z::rs'=rs∧τ4=τe:=by simpa using cl
        obtain⟨ers,rfl⟩:=ers
        refine Y41 (upd (wY H1 c a) acc (.lst vs)) F1 F4 τ2 (by rw[hK];exact RR.ext x4) ?_
        rw[e3]
        intro v F5 H5 f5 R5 r5
        rw[hK] at r5 R5
        have ff:Same F2 F5:=x3.ff.trans (x4.ff.trans f5)
        refine⟨vs,R5.bh acc _ zp,?_,ds.length-(j+1),by lia,rfl,hlt,F5,τ3,dn++[z],rs',vs++[v],(r2.mono ff).append (Reps.cons r5 Reps.nil),?_,n4,e4,?_⟩
        ·have:=congrArg List.length ex
         rw[← ers,List.length_append,List.length_cons,r2.length] at this
         lia
        ·have:=R5.acc (vs:=vs++[v]) n4 hF1 (.inr ⟨vs,zp⟩)
         rw[upd_upd] at this
         exact this
        ·rw[ex,← ers,List.append_assoc];rfl
    ·have e:j=ds.length:=by lia
     subst e
     rw[List.drop_length,jK] at cl
     cases cl
     rw[List.append_nil] at ex
     subst ex
     refine .inl ⟨i1 (Nat.le_refl _),?_⟩
     have z:=Gi qo
     refine X11 (R2.rv.ob.at_ p 1 c fs' z) fun a' p1 p2=>?_
     have hdx:upd (wY H1 c a) acc (.lst vs) dx=some (.own a):=by
      have n1:dx≠a:=fun z=>by subst z;rw[o1] at o5;nomatch o5
      have n2:dx∉Lof H1 c a:=fun z=>by
       rw[Lof.ins o1] at z
       refine X01 (o4.own z) fun _ r109_=>?_;refine X10 r109_ fun ws' q=>?_
       rw[o5] at q;nomatch q
      rw[zj nd,uN n1 n2];exact o5
     have hBa:upd (wY H1 c a) acc (.lst vs) a=none:=by rw[zj na];exact Xo _ _ _
     have:=R2.sf a dx hdx hBa p 0 c fs' z
     obtain rfl:a'=a:=by rw[p1] at this;replace this:=tJ_ this;subst this;rfl
     obtain⟨oo1,oo2⟩:=R2.oo p 1 c fs' a' z p1
     have hF2:F2 acc=none:=by
      cases y:F2 acc with
      |none=>rfl
      |some u=>
       rcases R2.nb acc u y with w|w
       ·rw[hF1] at w;nomatch w
       ·rw[zp] at w;nomatch w
     have hHc:Hc acc=some (.lst vs):=R2.bh acc _ zp
     have sm:Same F2 (upd F2 acc (.lst vs)):=yq hF2
     have lacc:∀l∈Lof Hc c a',l≠acc:=fun l hl w=>by
      subst w
      have:=oo2 l hl
      rw[zp] at this;nomatch this
     have ob':WR X.K (upd F2 acc (.lst vs)) Hc c fs' a':=by
      refine X35 p2 fun C' dx' us g1 g2 g3 g4 g5 g6=>?_
      refine⟨C',dx',us,g1,by rw[zj na];exact g2,g3,g4.keep sm fun l ws' hl e1 e2=>⟨e1,?_⟩,g5,g6⟩
      rw[zj (lacc l (by rw[Lof.ins g1];exact hl))];exact e2
     have fh':Same (upd F2 acc (.lst vs)) Hc:=fun b u e=>by
      by_cases y:b=acc
      ·subst y;rw[zp] at e;replace e:=sI_ e;subst e;exact hHc
      ·rw[zj y] at e;exact R2.rv.fh b u e
     refine gds (.ref acc) (upd F2 acc (.lst vs)) Hc (x.ff.trans (R2.zf.trans sm)) (R1.meth h1 q1 ⟨R2.zf.trans sm,fun b u e=>?_,fh',fun b u e=>?_,R2.rv.tt.freeze hHc⟩ ob' fun l hl=>?_) ?_
     ·have:b≠acc:=fun y=>by subst y;rw[hA] at e;nomatch e
      exact R2.bh b u (by rw[zj this];exact e)
     ·by_cases y:b=acc
      ·subst y;exact .inr hA
      ·rw[zj y] at e
       rcases R2.nb b u e with w|w
       ·exact .inl w
       ·rw[zj y] at w;exact .inr w
     ·have w:=oo2 l hl
      rw[zj (lacc l hl)] at w
      rcases jc w with y|y|y
      ·subst y
       refine X34 p2 fun C' dx' vs' g1 _ _ g4 _=>?_
       rw[Lof.ins g1] at hl
       refine X01 (g4.own hl) fun _ r110_=>?_;refine X10 r110_ fun ws' q=>?_
       rw[g1] at q;nomatch q
      ·exact .inl y
      ·exact .inr y
     ·simp only[Rep]
      exact Y22 acc vs rfl zp (r2.mono sm)
   ·rw[if_neg hm] at gds;exact gds.elim
theorem TY(hb:vT X.env.scope scope=true)(hc:X.calm=true)(hfr:FreeOk scope X.N fr idx)(hk:tn.length≤p)(hp:idx[p-tn.length]?=some i)(ns:∀d τ τ',set d τ=.ok τ'→vL τ→vL τ')(no:∀τ d τ',fo τ=.ok (d,τ')→vL τ→vL τ')(hi:PDI X tg iter fi)
  (hg:∀s H C fp,PDG (X.comp scope (tn++fr) s H C fp) tg set) (he:∀s H C fp,M2 (X.comp scope (tn++fr) s H C fp) elt fo)
  (hs:∀x,foldedSetIterable iter X.env x=pure x:=by intro _;rfl):M2 X (.ListComp elt [⟨tg,iter,[],0⟩] scope pos) (Ve tn.length idx i p c fi set fo):=
 PE.imp (Xi (s0:=wf tn.length idx) (g:=tG (X.comp scope (tn++fr) X.s₀ X.H₀ 0 []) set) (ti:=tTs (X.comp scope (tn++fr) X.s₀ X.H₀ 0 []) fun _=>.ok true) (te:=tOb (X.comp scope (tn++fr) X.s₀ X.H₀ 0 []) fo)
  (xV hb) hc (fun σ _=>by simp[wf,hfr.len]) (uV hfr) hi hg (fun _ _ _ _=>ZS) he hs) (Qz hk hp ns no rfl)
end
section
variable{X:Cx}{pos:Pos}{a b:Expr}{fe fa fb:FE}{i:Nat}{c:Str}
theorem eLd_L(σ:St)(H:Hp)(Q:VK)(h:tE X (eLd i c fe) σ H Q):tL X i c fe σ H Q:=by
 refine X21 h fun F τ R q=>?_
 refine X01 (Le (X:=X) q.bind) fun o r111_=>?_;refine X10 r111_ fun _ q=>?_
 have L:=wL R o
 refine Y22 F τ R o (q.bind.imp fun d g v F1 H1 x r=>?_)
 obtain⟨z,g⟩:=yG g
 exact g v (unl F1 (Lsl σ H i c)) H1 (L.back R.tt x) (Tp z r)
theorem TN{o:CmpOp}{op:D→D→Rs D}(ho:OpD X (compareOp o) op)(ha:PDL X i c a fa)(hb:PDL X i c b fb)(hm:behindInMarks o b=false):PDT X (.Compare a [o] [b] pos) (tB (eLd i c (eOp op fa fb))):=by
 refine X11 ho fun r h1 h2=>?_
 exact(VV h1 ha hb hm).imp (QI fun σ H Q h=>zq6 h2 σ H Q (eLd_L σ H Q h))
end
section
variable{τ:DS}{fa fb fc fe fi:FE}{fs:FA}{op:D→D→Rs D}{d x y:D}{i j k:Int}{n m:Nat}
noncomputable def getV:Option (Option Sl)→Rs D
 | some (some (.val d))=>.ok d
 |_=>.no
noncomputable def Jr:Option (Option Sl)→Rs (List D)
 | some (some (.own d))=>.ok d
 |_=>.no
@[simp] theorem zE:getV (some (some (.val d)))=.ok d:=rfl
@[simp] theorem xq{ds:List D}:Jr (some (some (.own ds)))=.ok ds:=rfl
theorem zM:ze n τ=getV τ[n]?:=rfl
theorem vC:uk τ n=Jr τ[n]?:=rfl
theorem yM:eC d τ=.ok d:=rfl
theorem yn:eOp op fa fb τ=(fa τ).bind fun x=>(fb τ).bind fun y=>op x y:=rfl
theorem zS:zi τ=.ok []:=rfl
theorem zA:za fa fs τ=(fa τ).bind fun x=>(fs τ).bind fun r=>.ok (x::r):=rfl
theorem Uq:jf fs τ=(fs τ).bind fun ds=>if ds.length≤sizeLine then .ok (.lst ds) else .no:=rfl
theorem GJ:v7 fs τ=(fs τ).bind fun ds=>if ds.length≤sizeLine then .ok (.tup ds) else .no:=rfl
theorem yI{g:List D→Rs D}:zv g fs τ=(fs τ).bind fun ds=>WL (g ds):=rfl
theorem vf{g:List D→Rs D}:yd g fs τ=(fs τ).bind g:=rfl
theorem L6{g:FT}:eIf g fa fb τ=(g τ).bind fun b=>if b=true then fa τ else fb τ:=rfl
theorem GL:MS fa fb τ=(fa τ).bind fun x=>(Yq x).bind fun b=>if b=true then fb τ else .ok x:=rfl
theorem Qu:eOr fa fb τ=(fa τ).bind fun x=>(Yq x).bind fun b=>if b=true then .ok x else fb τ:=rfl
noncomputable def boolOf:D→Rs Bool
 |.bl b=>.ok b
 |_=>.no
@[simp] theorem z8{b:Bool}:boolOf (.bl b)=.ok b:=rfl
theorem wg:FD.tB fe τ=(fe τ).bind boolOf:=rfl
theorem ue:wB fe τ=(fe τ).bind Yq:=rfl
theorem uf{f g:FT}:ZH f g τ=(f τ).bind fun b=>if b=true then g τ else .ok false:=rfl
theorem ju{f g:FT}:Ys f g τ=(f τ).bind fun b=>if b=true then .ok true else g τ:=rfl
theorem QK{f:FT}:wJ f τ=(f τ).bind fun b=>.ok (!b):=rfl
theorem GK{T:String}{g:D→List D→Rs D}:Qv T g fa τ=(fa τ).bind fun d=>if WO T d=true then g d [] else .no:=rfl
theorem L5{fl fh:FO}:eSl fe fl fh τ=(fe τ).bind fun d=>(fl τ).bind fun l=>(fh τ).bind fun u=>slD d l u:=rfl
noncomputable def QO:D→Rs (Option Int)
 |.int i=>.ok (some i)
 |_=>.no
@[simp] theorem UK:QO (.int i)=.ok (some i):=rfl
theorem XX:wt fe τ=(fe τ).bind QO:=rfl
noncomputable def Fl.thn(r:Fl)(g:FS):Fl:=match r with
 |.nx τ=>g τ
 |r=>r
@[simp] theorem yw{g:FS}:(Fl.nx τ).thn g=g τ:=rfl
@[simp] theorem Yr{g:FS}:(Fl.rt d).thn g=.rt d:=rfl
theorem zU{f g:FS}:zI f g τ=(f τ).thn g:=rfl
theorem yj:yQ n fe τ=Fl.of (fe τ) fun d=>.nx (τ.set n (some (.val d))):=rfl
theorem vA:uG n fs τ=Fl.of (fs τ) fun ds=>.nx (τ.set n (some (.own ds))):=rfl
theorem yK{g:FT}{f h:FS}:sIf g f h τ=Fl.of (g τ) fun b=>if b=true then f τ else h τ:=rfl
theorem ye:xb fe τ=Fl.of (fe τ) fun d=>.rt d:=rfl
theorem vB:ji n τ=Fl.of (uk τ n) fun ds=>.rt (.lst ds):=rfl
theorem ya:yf τ=.nx τ:=rfl
theorem wZ{set:FG}{body:FS}:vY fs set body τ=Fl.of (fs τ) fun ds=>yO set body ds τ:=rfl
@[simp] theorem zZ:Y1 (.rt d)=.ok d:=rfl
@[simp] theorem xQ:WL (.ok d)=.ok d:=rfl
@[simp] theorem xW:zV (.int i) (.int j)=.ok (.int (i+j)):=rfl
theorem QE{a b:Str}(h:a.length+b.length≤sizeLine):zV (.str a) (.str b)=.ok (.str (a++b)):=if_pos h
@[simp] theorem vF:vV (.int i) (.int j)=.ok (.int (i-j)):=rfl
theorem jB(h:(-(18446744073709551616)<i∧i<18446744073709551616)∨(-(18446744073709551616)<j∧j<18446744073709551616)):jC (.int i) (.int j)=.ok (.int (i*j)):=if_pos h
theorem X1(h:0<j):Uc (.int i) (.int j)=.ok (.int (i%j)):=by
 show(if decide (0<j)=true then _ else _)=_
 rw[if_pos (by simpa using h)]
theorem Xq(h:0<j∧j<1073741824):Wm (.int i) (.int j)=.ok (.int (i / j)):=by
 show(if decide (0<j∧j<1073741824)=true then _ else _)=_
 rw[if_pos (by simpa using h)]
@[simp] theorem Lv:ltI (.int i) (.int j)=.ok (.bl (decide (i<j))):=rfl
@[simp] theorem GD:gtD (.int i) (.int j)=.ok (.bl (decide (j<i))):=rfl
@[simp] theorem geD_i:geD (.int i) (.int j)=.ok (.bl (decide (j≤i))):=rfl
@[simp] theorem uR:eqD (.int i) (.int j)=.ok (.bl (i==j)):=rfl
@[simp] theorem L0{a b:Str}:eqD (.str a) (.str b)=.ok (.bl (a==b)):=rfl
@[simp] theorem Lo:neD (.int i) (.int j)=.ok (.bl (!(i==j))):=rfl
@[simp] theorem neD_s{a b:Str}:neD (.str a) (.str b)=.ok (.bl (!(a==b))):=rfl
@[simp] theorem YY{a b:Str}:inD (.str a) (.str b)=.ok (.bl (UI a b)):=rfl
theorem wU(c:Nat)(x:Str):UI ⟨#[c]⟩ x=decide (c∈x.cps.toList):=StrLaws.found_one x c
@[simp] theorem LB{ns:List Int}:yr [.scr ns]=.ok (.int ns.length):=rfl
@[simp] theorem v5{ds:List D}:yr [.lst ds]=.ok (.int ds.length):=rfl
theorem Je{a:Str}(h:a.length≤sizeLine):yr [.str a]=.ok (.int a.length):=if_pos h
theorem zi2{ns:List Int}{a:Int}(h:atI ns k=some a):ixD (.scr ns) (.int k)=.ok (.int a):=by
 show(match atI ns k with|some d=>Rs.ok (D.int d) | none=>.no)=_
 rw[h]
theorem Gw{ds:List D}{a:D}(h:atI ds k=some a):ixD (.lst ds) (.int k)=.ok a:=by
 show(match atI ds k with|some d=>Rs.ok d|none=>.no)=_
 rw[h]
theorem Xn{a:Str}{c:Nat}(h:atI a.cps.toList k=some c)(hz:a.length≤sizeLine):ixD (.str a) (.int k)=.ok (zH c):=by
 show(match atI a.cps.toList k with|some c=>if a.length≤sizeLine then Rs.ok (D.str ⟨#[c]⟩) else .no|none=>.no)=_
 rw[h]
 exact if_pos hz
theorem Wr{α:Type}{xs:List α}{a:α}(h0:0≤k)(h:xs[k.toNat]?=some a):atI xs k=some a:=by
 have:=Uu (j:=k.toNat) h
 rwa [Int.toNat_of_nonneg h0] at this
@[simp] theorem vN{b:Bool}:Yq (.bl b)=.ok b:=rfl
theorem M9{a:Str}(h:a.length≤sizeLine):Yq (.str a)=.ok ((a.length:Int) != 0):=if_pos h
theorem yx{b:FS}{ds:List D}:wE n b ds=Y1 (b (z0 n ds)):=rfl
end
theorem Qr(l:List PyData):PyData.eqvAll l []=l.isEmpty:=by cases l <;> simp[PyData.eqvAll]
theorem zf8(ns:List Int):okD (.scr ns)=true:=by
 have c:∀l:List Int,PyData.canLayAll0 (l.map PyData.int)=true:=fun l=>by
  induction l with
  |nil=>rfl
  |cons a r ih=>simp[PyData.canLayAll0,PyData.canLay0,ih]
 have d:∀l:List Int,PyData.depthAll (l.map PyData.int)=0:=fun l=>by
  induction l with
  |nil=>rfl
  |cons a r ih=>simp[PyData.depthAll,PyData.depth,ih]
 simp[okD,wn,we,PyData.canLay0,PyData.depth,c,d]
theorem Jz(ns:List Int):eqD (.scr ns) (.lst [])=.ok (.bl ns.isEmpty):=by
 have o2:okD (.lst [])=true:=by decide
 have:vq (.scr ns) (.lst [])=ns.isEmpty:=by
  simp only[vq,we,toPys,PyData.eqv,Qr]
  cases ns <;> rfl
 simp only[eqD,zf8,o2,this,and_self,if_true]
end FD
set_option Elab.async false
set_option linter.all false
set_option maxRecDepth 100000
namespace Law
open PySem PySem.Spec PyProof.Rows L2 FD
noncomputable def Y6:FS:=(zI (sIf (tB (eOp eqD (ze 0) (jf zi))) (xb (eOp jC (eC (.int 7)) (ze 1))) yf)
  (xb (eOp zV (eOp ixD (ze 0) (eOp Uc (ze 1) (yd yr (za (ze 0) zi)))) (eOp jC (eC (.int 6553)) (eOp Wm (ze 1) (yd yr (za (ze 0) zi)))))))
noncomputable def wX(ds:List D):Rs D:=wE 2 Y6 ds
noncomputable def Yl:FS:=(zI (yQ 3 (eOp Uc (eOp zV (eOp jC (eOp Uc (zv wX (za (ze 0) (za (ze 1) zi))) (eC (.int 2147483563))) (eC (.int 69069))) (eOp jC (eC (.int 104723)) (eOp zV (ze 1) (eC (.int 1))))) (eC (.int 2147483563))))
  (zI (yQ 3 (eOp Uc (eOp zV (eOp jC (ze 3) (ze 3)) (eOp Wm (ze 3) (eC (.int 3)))) (eC (.int 2147483399))))
  (xb (eOp Uc (eOp Wm (eOp Uc (eOp zV (eOp jC (ze 3) (ze 3)) (eOp Wm (ze 3) (eC (.int 7)))) (eC (.int 2147483647))) (eC (.int 11))) (ze 2)))))
noncomputable def zu(ds:List D):Rs D:=wE 4 Yl ds
noncomputable def Y4:FS:=(zI (yQ 2 (eC (.str "")))
  (zI (vY (vi (za (eOp zV (eC (.int 1)) (zv zu (za (ze 0) (za (ze 1) (za (eC (.int 10)) zi))))) zi)) (gNm 3) (yQ 2 (eOp zV (ze 2) (eOp ixD (eC (.str "abcabABCab1_-./xyz")) (zv zu (za (ze 0) (za (eOp zV (eOp zV (ze 1) (eC (.int 1))) (ze 3)) (za (eC (.int 18)) zi))))))))
  (xb (ze 2))))
noncomputable def xI(ds:List D):Rs D:=wE 4 Y4 ds
noncomputable def jh:FS:=(zI (uG 3 (xK 1 [0,1] (vi (za (zv zu (za (ze 0) (za (ze 1) (za (eOp zV (ze 2) (eC (.int 1))) zi)))) zi)) (gNm 0) (fun _=>.ok true) (zv xI (za (ze 1) (za (eOp zV (eOp zV (ze 2) (eC (.int 1))) (eOp jC (eC (.int 12)) (ze 0))) zi)))))
  (zI (sIf (ZH (tB (eOp gtD (Yg 3) (eC (.int 1)))) (tB (eOp eqD (zv zu (za (ze 0) (za (eOp zV (ze 1) (eC (.int 12))) (za (eC (.int 5)) zi)))) (eC (.int 0))))) (G9 3 (eC (.int 0)) (MR 3 (xZ (eC (.int 1))))) yf)
  (ji 3)))
noncomputable def xT(ds:List D):Rs D:=wE 4 jh ds
noncomputable def Y5:FS:=(xb (eOp inD (ze 0) (eC (.str "_-./"))))
noncomputable def xJ(ds:List D):Rs D:=wE 1 Y5 ds
noncomputable def Yk:FS:=(zI (yQ 4 (eC (.str "")))
  (zI (yQ 5 (eC (.int 0)))
  (zI (vY (vi (za (zv zu (za (ze 0) (za (ze 1) (za (eOp zV (ze 3) (eC (.int 1))) zi)))) zi)) (gNm 6) (zI (yQ 5 (yd Z2 (za (eOp vV (yd yr (za (ze 2) zi)) (eC (.int 1))) (za (eOp zV (ze 5) (zv zu (za (ze 0) (za (eOp zV (eOp zV (ze 1) (eC (.int 1))) (eOp jC (eC (.int 3)) (ze 6))) (za (eC (.int 3)) zi))))) zi))))
  (zI (yQ 7 (Qv "str" loD (eOr (eSl (ze 2) (wt (ze 5)) (wt (eOp zV (ze 5) (eC (.int 1))))) (eC (.str "a")))))
  (zI (yQ 5 (eOp zV (ze 5) (eC (.int 1))))
  (zI (sIf (tB (eOp eqD (zv zu (za (ze 0) (za (eOp zV (eOp zV (ze 1) (eC (.int 2))) (eOp jC (eC (.int 3)) (ze 6))) (za (eC (.int 5)) zi)))) (eC (.int 0)))) (yQ 7 (eOp ixD (eC (.str "abAB1c")) (zv zu (za (ze 0) (za (eOp zV (eOp zV (ze 1) (eC (.int 3))) (eOp jC (eC (.int 3)) (ze 6))) (za (eC (.int 6)) zi)))))) yf)
  (sIf (wJ (wB (zv xJ (za (ze 7) zi)))) (yQ 4 (eOp zV (ze 4) (ze 7))) yf))))))
  (xb (ze 4)))))
noncomputable def xS(ds:List D):Rs D:=wE 8 Yk ds
noncomputable def uv:FS:=(zI (zd0 0 "Seeker" "names" (zs2 (ze 1)))
  (zI (sAt 0 "Seeker" "query" (eC (.str "")))
  (zI (QU 0 "Seeker" "levels" (uq (vi (za (yd yr (za (ze 1) zi)) zi))))
  (sAt 0 "Seeker" "looks" (eC (.int 0))))))
noncomputable def yi(fs:Fs)(ds:List D):Rs (D×Fs):=ZO 2 0 "Seeker" uv fs ds
noncomputable def ZA:FS:=(xb (Wn [0] (ze 1) (v7 (za (xZ (eOp ixD (ze 0) (eC (.int 0)))) (za (yd yr (za (eOp ixD (ze 1) (eOp ixD (ze 0) (eC (.int 1)))) zi)) (za (eOp ixD (ze 0) (eC (.int 1))) zi))))))
noncomputable def ww(ds:List D):Rs D:=wE 2 ZA ds
noncomputable def jg:FS:=(W7 (fSl (zv ww (za (ze 0) (za (ze 1) zi))) vK (wt (yd X3 (za (ze 2) (za (eC (.int 0)) zi))))))
noncomputable def xh(ds:List D):Rs (List D):=runN 3 jg ds
noncomputable def xR(ds:List D):Rs D:=(xh ds).bind fun xs=>.ok (.lst xs)
noncomputable def ua:FS:=(zI (sIf (tB (eOp eqD (ze 1) (eC (.int 0)))) (xb (eC (.int 8))) yf)
  (zI (yQ 2 (eOp ixD (ze 0) (eOp vV (ze 1) (eC (.int 1)))))
  (zI (sIf (tB (eOp inD (ze 2) (eC (.str "_-./")))) (xb (eC (.int 6))) yf)
  (zI (sIf (ZH (tB (eOp inD (eOp ixD (ze 0) (ze 1)) (eC (.str "ABCDEFGHIJKLMNOPQRSTUVWXYZ")))) (Ys (tB (eOp inD (ze 2) (eC (.str "abcdefghijklmnopqrstuvwxyz")))) (tB (eOp inD (ze 2) (eC (.str "0123456789")))))) (xb (eC (.int 5))) yf)
  (xb (eC (.int 0)))))))
noncomputable def yN(ds:List D):Rs D:=wE 3 ua ds
noncomputable def Yj:FS:=(zI (yQ 3 (eIf (tB (eOp eqD (eOp ixD (ze 1) (ze 2)) (ze 0))) (eC (.int 1)) (eC (.int 0))))
  (xb (eOp zV (eOp zV (eC (.int 10)) (zv yN (za (ze 1) (za (ze 2) zi)))) (ze 3))))
noncomputable def yH(ds:List D):Rs D:=wE 4 Yj ds
noncomputable def GP:FS:=(xb (eOr (eOp eqD (ze 0) (ze 1)) (MS (eOp inD (ze 0) (eC (.str "abcdefghijklmnopqrstuvwxyz"))) (eOp eqD (Qv "str" upD (ze 0)) (ze 1)))))
noncomputable def wc(ds:List D):Rs D:=wE 2 GP ds
noncomputable def ut:FS:=(xb (fun τ=>((xK 1 [0,1] (vi (za (yd yr (za (ze 1) zi)) zi)) (gNm 0) (wB (zv wc (za (ze 1) (za (eOp ixD (ze 2) (ze 0)) zi)))) (v7 (za (zv yH (za (ze 1) (za (ze 2) (za (ze 0) zi)))) (za (jf (za (ze 0) zi)) zi)))) τ).bind fun ds=>.ok (.lst ds)))
noncomputable def yv(ds:List D):Rs D:=wE 2 ut ds
noncomputable def jn:FS:=(zI (yQ 1 (eC .non))
  (zI (vY (ve (ze 0)) (gNm 2) (sIf (Ys (tB (eOp isD (ze 1) (eC .non))) (tB (eOp gtD (eOp ixD (ze 2) (eC (.int 0))) (eOp ixD (ze 1) (eC (.int 0)))))) (yQ 1 (ze 2)) yf))
  (xb (ze 1))))
noncomputable def zW(ds:List D):Rs D:=wE 3 jn ds
noncomputable def Zf:FS:=(zI (yQ 2 (eOp vV (eOp vV (ze 1) (ze 0)) (eC (.int 1))))
  (zI (sIf (tB (eOp eqD (ze 2) (eC (.int 0)))) (xb (eC (.int 7))) yf)
  (xb (xZ (yd Z2 (za (ze 2) (za (eC (.int 5)) zi)))))))
noncomputable def xA(ds:List D):Rs D:=wE 3 Zf ds
noncomputable def jM:FS:=(xb (fun τ=>((xK 1 [0] (ve (ze 1)) (gNm 0) (tB (eOp gtD (eOp ixD (eOp ixD (ze 0) (eC (.int 1))) (eC (.int 0))) (ze 1))) (v7 (za (eOp zV (eOp ixD (ze 0) (eC (.int 0))) (zv xA (za (ze 1) (za (eOp ixD (eOp ixD (ze 0) (eC (.int 1))) (eC (.int 0))) zi)))) (za (eOp ixD (ze 0) (eC (.int 1))) zi)))) τ).bind fun ds=>.ok (.lst ds)))
noncomputable def yR(ds:List D):Rs D:=wE 2 jM ds
noncomputable def v8:FS:=(zI (uG 3 (fun τ=>(zi τ).bind fun ds=>if ds.length≤sizeLine then .ok ds else .no))
  (zI (vY (vi (za (yd yr (za (ze 1) zi)) zi)) (gNm 4) (sIf (wB (zv wc (za (ze 0) (za (eOp ixD (ze 1) (ze 4)) zi)))) (zI (yQ 5 (zv zW (za (zv yR (za (ze 4) (za (ze 2) zi))) zi)))
  (sIf (tB (eOp jb (ze 5) (eC .non))) (WB 3 (v7 (za (eOp zV (zv yH (za (ze 0) (za (ze 1) (za (ze 4) zi)))) (eOp ixD (ze 5) (eC (.int 0)))) (za (eOp zV (jf (za (ze 4) zi)) (eOp ixD (ze 5) (eC (.int 1)))) zi)))) yf)) yf))
  (ji 3)))
noncomputable def xn(ds:List D):Rs D:=wE 6 v8 ds
noncomputable def Zg:FS:=(xb (xZ (yd Z2 (za (ze 0) (za (eC (.int 3)) zi)))))
noncomputable def xg(ds:List D):Rs D:=wE 1 Zg ds
noncomputable def QC:FS:=(zI (sIf (tB (eOp eqD (yd yr (za (ze 0) zi)) (eC (.int 0)))) (xb (v7 (za (eC (.int 0)) (za (jf zi) zi)))) yf)
  (zI (yQ 2 (zv yv (za (eOp ixD (ze 0) (xZ (eC (.int 1)))) (za (ze 1) zi))))
  (zI (vY (ML (za (eOp vV (yd yr (za (ze 0) zi)) (eC (.int 2))) (za (xZ (eC (.int 1))) (za (xZ (eC (.int 1))) zi)))) (gNm 3) (yQ 2 (zv xn (za (eOp ixD (ze 0) (ze 3)) (za (ze 1) (za (ze 2) zi))))))
  (xb (zv zW (za (fun τ=>((xK 1 [] (ve (ze 2)) (gNm 0) (fun _=>.ok true) (v7 (za (eOp zV (eOp ixD (ze 0) (eC (.int 0))) (zv xg (za (eOp ixD (eOp ixD (ze 0) (eC (.int 1))) (eC (.int 0))) zi))) (za (eOp ixD (ze 0) (eC (.int 1))) zi)))) τ).bind fun ds=>.ok (.lst ds)) zi))))))
noncomputable def uA(ds:List D):Rs D:=wE 4 QC ds
noncomputable def v9:FS:=(zI (uG 3 (fun τ=>(zi τ).bind fun ds=>if ds.length≤sizeLine then .ok ds else .no))
  (zI (vY (ve (ze 2)) (gNm 4) (zI (yQ 5 (zv uA (za (ze 1) (za (eOp ixD (ze 0) (ze 4)) zi))))
  (sIf (tB (eOp jb (ze 5) (eC .non))) (WB 3 (v7 (za (eOp ixD (ze 5) (eC (.int 0))) (za (ze 4) zi)))) yf)))
  (ji 3)))
noncomputable def yb(ds:List D):Rs D:=wE 6 v9 ds
noncomputable def ZB:FS:=(xb (zv yb (za (ze 0) (za (ze 1) (za (fun τ=>((uq (vi (za (yd yr (za (ze 0) zi)) zi))) τ).bind fun ds=>.ok (.lst ds)) zi)))))
noncomputable def wy(ds:List D):Rs D:=wE 2 ZB ds
noncomputable def Ut:FS:=(xb (zv xR (za (ze 0) (za (zv wy (za (ze 0) (za (ze 1) zi))) (za (ze 2) zi)))))
noncomputable def wN(ds:List D):Rs D:=wE 3 Ut ds
noncomputable def uu:FS:=(zI (uG 2 (fun τ=>(zi τ).bind fun ds=>if ds.length≤sizeLine then .ok ds else .no))
  (zI (vY (vi (za (yd yr (za (ze 1) zi)) zi)) (gNm 3) (sIf (ZH (tB (eOp ltI (Yg 2) (yd yr (za (ze 0) zi)))) (wB (zv wc (za (eOp ixD (ze 0) (Yg 2)) (za (eOp ixD (ze 1) (ze 3)) zi))))) (WB 2 (ze 3)) yf))
  (ji 2)))
noncomputable def yX(ds:List D):Rs D:=wE 4 uu ds
noncomputable def za7:FS:=(xb (eOp eqD (yd yr (za (zv yX (za (ze 0) (za (ze 1) zi))) zi)) (yd yr (za (ze 0) zi))))
noncomputable def wx(ds:List D):Rs D:=wE 2 za7 ds
noncomputable def Ym:FS:=(xb (fun τ=>(Up 0 "Seeker" xh (za (JB 0 "Seeker" "names") (za (zv yb (za (JB 0 "Seeker" "names") (za (eAt 0 "Seeker" "query") (za (JD 0 "Seeker" "levels" (xZ (eC (.int 1)))) zi)))) (za (ze 1) zi))) τ).bind fun ds=>.ok (.lst ds)))
noncomputable def yP(fs:Fs)(ds:List D):Rs D:=ZN 2 0 "Seeker" Ym fs ds
noncomputable def jN:FS:=(xb (eAt 0 "Seeker" "query"))
noncomputable def xG(fs:Fs)(ds:List D):Rs D:=ZN 1 0 "Seeker" jN fs ds
noncomputable def uT:FS:=(xb (fun τ=>(Uo 0 "Seeker" "levels" (xZ (eC (.int 1))) τ).bind fun ds=>.ok (.lst ds)))
noncomputable def zJ(fs:Fs)(ds:List D):Rs D:=ZN 1 0 "Seeker" uT fs ds
noncomputable def jo:FS:=(zI (yQ 3 fun τ=>((xK 2 [2] (iEn (za (ze 1) zi)) (gPr 0 1) (wB (zv wx (za (ze 2) (za (ze 1) zi)))) (ze 0)) τ).bind fun ds=>.ok (.lst ds))
  (zI (sIf (Ys (tB (eOp neD (yL 0 "Seeker" "typed" xG zi) (ze 2))) (tB (eOp neD (yL 0 "Seeker" "fitting" zJ zi) (ze 3)))) (xb (eC (.bl false))) yf)
  (xb (eOp eqD (yL 0 "Seeker" "now" yP (za (eC (.int 99)) zi)) (zv wN (za (ze 1) (za (ze 2) (za (eC (.int 99)) zi))))))))
noncomputable def zO(fs:Fs)(ds:List D):Rs D:=ZN 4 0 "Seeker" jo fs ds
noncomputable def VD:FS:=(W7 (xK 1 [0] (ve (ze 1)) (gNm 0) (tB (eOp neD (ze 0) (ze 1))) (ze 0)))
noncomputable def xU(ds:List D):Rs (List D):=runN 2 VD ds
noncomputable def Mz(ds:List D):Rs D:=(xU ds).bind fun xs=>.ok (.lst xs)
noncomputable def Zh:FS:=(zI (sIf (tB (eLd 0 "Seeker" (eOp XY (ze 1) (JD 0 "Seeker" "levels" (eC (.int 0)))))) sNo yf)
  (QV 0 1 "Seeker" "levels" xU))
noncomputable def x9(fs:Fs)(ds:List D):Rs (D×Fs):=ZO 2 0 "Seeker" Zh fs ds
noncomputable def jm:FS:=(xb (eOr (eOp inD (ze 0) (eC (.str "abcdefghijklmnopqrstuvwxyz"))) (eOr (eOp inD (ze 0) (eC (.str "ABCDEFGHIJKLMNOPQRSTUVWXYZ"))) (eOp inD (ze 0) (eC (.str "0123456789"))))))
noncomputable def y9(ds:List D):Rs D:=wE 1 jm ds
noncomputable def jq:FS:=(zI (sIf (Ys (tB (eOp neD (yd yr (za (ze 1) zi)) (eC (.int 1)))) (wJ (wB (zv y9 (za (ze 1) zi))))) sNo yf)
  (zI (sIf (tB (eOp geD (yd yr (za (eAt 0 "Seeker" "query") zi)) (eC (.int 8)))) sNo yf)
  (zI (sAt 0 "Seeker" "query" (eOp zV (eAt 0 "Seeker" "query") (ze 1)))
  (ZM 0 2 "Seeker" "levels" "looks" (xZ (eC (.int 1))) (fun τ=>(xK 1 [0] (Vr 0 "Seeker" "levels") (gNm 0) (wB (zv wx (za (eAt 1 "Seeker" "query") (za (Qw 1 "Seeker" "names" (ze 0)) zi)))) (ze 0)) (Mv 0 τ)) (ZL (Vy 0 "Seeker" "levels" (xZ (eC (.int 1)))))))))
noncomputable def zQ(fs:Fs)(ds:List D):Rs (D×Fs):=ZO 3 0 "Seeker" jq fs ds
noncomputable def jp:FS:=(xb (eAt 0 "Seeker" "looks"))
noncomputable def yc(fs:Fs)(ds:List D):Rs D:=ZN 1 0 "Seeker" jp fs ds
noncomputable def Zi:FS:=(zI (sIf (tB (eOp eqD (yd yr (za (eAt 0 "Seeker" "query") zi)) (eC (.int 0)))) sNo yf)
  (zI (sAt 0 "Seeker" "query" (eSl (eAt 0 "Seeker" "query") vK (wt (xZ (eC (.int 1))))))
  (zI (QT 0 "Seeker" "levels")
  (ZL (Vy 0 "Seeker" "levels" (xZ (eC (.int 1))))))))
noncomputable def xB(fs:Fs)(ds:List D):Rs (D×Fs):=ZO 1 0 "Seeker" Zi fs ds
noncomputable def Yn:FS:=(zI (yQ 2 (JC 0 "Seeker" "names"))
  (zI (UP 0 "Seeker" "names" (ze 1))
  (zI (XB 0 "Seeker" "levels" (eC (.int 0)) (ze 2))
  (zI (vY (MM (za (eC (.int 1)) (za (eOp zV (yd yr (za (eAt 0 "Seeker" "query") zi)) (eC (.int 1))) zi))) (gNm 3) (zI (W8 0 "Seeker" "looks" (eC (.int 1)))
  (zI (sIf (wJ (wB (zv wx (za (eSl (eAt 0 "Seeker" "query") vK (wt (ze 3))) (za (ze 1) zi))))) JZ yf)
  (XB 0 "Seeker" "levels" (ze 3) (ze 2)))))
  (ZL (ze 2))))))
noncomputable def xv(fs:Fs)(ds:List D):Rs (D×Fs):=ZO 4 0 "Seeker" Yn fs ds
noncomputable def zm8:FS:=(zI (yQ 1 (zv xT (za (ze 0) (za (eC (.int 0)) (za (eC (.int 5)) zi)))))
  (zI (yQ 2 (zv xS (za (ze 0) (za (eC (.int 80)) (za (eOp ixD (eOp zV (ze 1) (jf (za (eC (.str "abc")) zi))) (zv zu (za (ze 0) (za (eC (.int 79)) (za (eOp zV (yd yr (za (ze 1) zi)) (eC (.int 1))) zi))))) (za (eC (.int 5)) zi))))))
  (zI (YN 3 "Seeker" yi (za (ze 1) zi))
  (zI (YN 4 "Seeker" yi (za (jf zi) zi))
  (zI (yQ 5 (eC (.str "")))
  (zI (yQ 6 (eC (.int 0)))
  (zI (vY (ve (ze 2)) (gNm 7) (zI (yQ 6 (eOp zV (ze 6) (yd yr (za (yL 3 "Seeker" "fitting" zJ zi) zi))))
  (zI (yQ 5 (eOp zV (ze 5) (ze 7)))
  (zI (Ma (Qc (oB (oOp neD (wu 3 "Seeker" "letter" zQ (za (ze 7) zi)) (yd yr (za (yL 3 "Seeker" "fitting" zJ zi) zi)))) (J8 (wJ (wB (uS 3 "Seeker" zO zi (za (ze 1) (za (ze 5) zi))))))) (xb (eC (.bl false))) yf)
  (vG (wu 4 "Seeker" "letter" zQ (za (ze 7) zi)))))))
  (zI (sIf (tB (eOp neD (yL 3 "Seeker" "looked" yc zi) (ze 6))) (xb (eC (.bl false))) yf)
  (zI (Ma (Qc (oB (oOp neD (Ve 1 [4] 4 1 "Seeker" (ve (ze 1)) (gNm 0) (wu 1 "Seeker" "add" xv (za (ze 0) zi))) (fun τ=>((uq (vi (za (yd yr (za (ze 1) zi)) zi))) τ).bind fun ds=>.ok (.lst ds)))) (J8 (wJ (wB (uS 4 "Seeker" zO zi (za (ze 1) (za (ze 2) zi))))))) (xb (eC (.bl false))) yf)
  (zI (sIf (tB (eOp neD (yL 4 "Seeker" "looked" yc zi) (ze 6))) (xb (eC (.bl false))) yf)
  (zI (yQ 8 (zv zu (za (ze 0) (za (eC (.int 110)) (za (eOp zV (yd yr (za (ze 2) zi)) (eC (.int 1))) zi)))))
  (zI (vY (vi (za (ze 8) zi)) (gNm 9) (zI (vG (wu 3 "Seeker" "back" xB zi))
  (sIf (Ys (wJ (wB (uS 3 "Seeker" zO zi (za (ze 1) (za (eSl (ze 2) vK (wt (eOp vV (eOp vV (yd yr (za (ze 2) zi)) (ze 9)) (eC (.int 1))))) zi))))) (tB (eOp neD (yL 3 "Seeker" "looked" yc zi) (ze 6)))) (xb (eC (.bl false))) yf)))
  (zI (vY (ve (eSl (ze 2) (wt (eOp vV (yd yr (za (ze 2) zi)) (ze 8))) vK)) (gNm 7) (vG (wu 3 "Seeker" "letter" zQ (za (ze 7) zi))))
  (zI (sIf (wJ (wB (uS 3 "Seeker" zO zi (za (ze 1) (za (ze 2) zi))))) (xb (eC (.bl false))) yf)
  (zI (sIf (tB (eOp eqD (ze 1) (jf zi))) (xb (eC (.bl true))) yf)
  (zI (yQ 10 (zv zu (za (ze 0) (za (eC (.int 111)) (za (yd yr (za (ze 1) zi)) zi)))))
  (zI (vG (wu 3 "Seeker" "hide" x9 (za (ze 10) zi)))
  (zI (yQ 11 fun τ=>((xK 1 [10] (ve (zv wN (za (ze 1) (za (ze 2) (za (eC (.int 99)) zi))))) (gNm 0) (tB (eOp neD (eOp ixD (ze 0) (eC (.int 1))) (ze 1))) (ze 0)) τ).bind fun ds=>.ok (.lst ds))
  (xb (MS (eOp eqD (yL 3 "Seeker" "now" yP (za (eC (.int 99)) zi)) (ze 11)) (eOp eqD (yL 3 "Seeker" "fitting" zJ zi) (yd G4 (za (fun τ=>((xK 1 [] (ve (ze 11)) (gNm 0) (fun _=>.ok true) (eOp ixD (ze 0) (eC (.int 1)))) τ).bind fun ds=>.ok (.lst ds)) zi)))))))))))))))))))))))
noncomputable def Gn(ds:List D):Rs D:=wE 12 zm8 ds
noncomputable def Y3(ns:List Int)(k:Int):Int:=if ns=[] then 7*k else ns.getD (k%ns.length).toNat 0+6553*(k / ns.length)
theorem zK:sizeLine=16777216:=sizeLine_eq
theorem zj5(ns:List Int)(k:Int)(h63:ns.length≤63)(h0:0≤k):wX [.scr ns,.int k]=.ok (.int (Y3 ns k)):=by
 have st:z0 2 [D.scr ns,.int k]=[some (.val (.scr ns)),some (.val (.int k))]:=rfl
 unfold wX Y6
 rw[yx,st]
 simp only[zU,yK,wg,yn,zM,Uq,zS,List.getElem?_cons_zero,zE,Rs.bind_ok,List.length_nil,Nat.zero_le,if_true,Jz,z8,Fl.of_ok]
 cases ns with
 |nil=>
  simp only[List.isEmpty_nil,if_true,ye,yn,yM,zM,List.getElem?_cons_zero,List.getElem?_cons_succ,zE,Rs.bind_ok,jB (i:=7) (j:=k) (.inl ⟨by decide,by decide⟩),Fl.of_ok,Yr,zZ,Y3]
 |cons a r=>
  have hl:(0:Int)<((a::r).length:Int):=by simp only[List.length_cons];lia
  have hm0:=Int.emod_nonneg k (show((a::r).length:Int)≠0 by lia)
  have hm1:=Int.emod_lt_of_pos k hl
  have hat:atI (a::r) (k%((a::r).length:Int))=some ((a::r).getD (k%((a::r).length:Int)).toNat 0):=by
   refine Wr hm0 ?_
   have:(k%((a::r).length:Int)).toNat<(a::r).length:=by lia
   rw[List.getD_eq_getElem?_getD,List.getElem?_eq_getElem this];rfl
  have hdv:Wm (.int k) (.int ((a::r).length:Int))=.ok (.int (k / ((a::r).length:Int))):=Xq ⟨hl,by lia⟩
  have hmd:Uc (.int k) (.int ((a::r).length:Int))=.ok (.int (k%((a::r).length:Int))):=X1 hl
  have hml:=jB (i:=6553) (j:=k / ((a::r).length:Int)) (.inl ⟨by decide,by decide⟩)
  simp only[List.isEmpty_cons,Bool.false_eq_true,if_false,ya,yw,ye,yn,yM,zM,vf,zA,zS,List.getElem?_cons_zero,List.getElem?_cons_succ,zE,Rs.bind_ok,LB,hmd,hdv,hml,zi2 hat,xW,Fl.of_ok,zZ]
  simp[Y3]
noncomputable def d1(ns:List Int)(k:Int):Int:=(Y3 ns k%2147483563*69069+104723*(k+1))%2147483563
noncomputable def d2(ns:List Int)(k:Int):Int:=(d1 ns k*d1 ns k+d1 ns k / 3)%2147483399
noncomputable def wd(ns:List Int)(k m:Int):Int:=(d2 ns k*d2 ns k+d2 ns k / 7)%2147483647 / 11%m
theorem vg(ns:List Int)(k m:Int)(h63:ns.length≤63)(h0:0≤k)(hk:k<1000000)(hm:0<m):zu [.scr ns,.int k,.int m]=.ok (.int (wd ns k m)):=by
 have st:z0 4 [D.scr ns,.int k,.int m]=[some (.val (.scr ns)),some (.val (.int k)),some (.val (.int m)),none]:=rfl
 have b1:0≤d1 ns k∧d1 ns k<2147483563:=⟨Int.emod_nonneg _ (by decide),Int.emod_lt_of_pos _ (by decide)⟩
 have b2:0≤d2 ns k∧d2 ns k<2147483399:=⟨Int.emod_nonneg _ (by decide),Int.emod_lt_of_pos _ (by decide)⟩
 have c0:=Int.emod_lt_of_pos (Y3 ns k) (show(0:Int)<2147483563 by decide)
 have c1:=Int.emod_nonneg (Y3 ns k) (show(2147483563:Int)≠0 by decide)
 have q1:=jB (i:=Y3 ns k%2147483563) (j:=69069) (.inr ⟨by decide,by decide⟩)
 have q2:=jB (i:=104723) (j:=k+1) (.inl ⟨by decide,by decide⟩)
 have q3:=jB (i:=d1 ns k) (j:=d1 ns k) (.inl ⟨by lia,by lia⟩)
 have q4:=jB (i:=d2 ns k) (j:=d2 ns k) (.inl ⟨by lia,by lia⟩)
 have e1:(Y3 ns k%2147483563*69069+104723*(k+1))%2147483563=d1 ns k:=rfl
 have e2:(d1 ns k*d1 ns k+d1 ns k / 3)%2147483399=d2 ns k:=rfl
 have m1:=fun i=>X1 (i:=i) (j:=2147483563) (by decide)
 have m2:=fun i=>X1 (i:=i) (j:=2147483399) (by decide)
 have m3:=fun i=>X1 (i:=i) (j:=2147483647) (by decide)
 have m4:=fun i=>X1 (i:=i) (j:=m) hm
 have f3:=fun i=>Xq (i:=i) (j:=3) ⟨by decide,by decide⟩
 have f7:=fun i=>Xq (i:=i) (j:=7) ⟨by decide,by decide⟩
 have f11:=fun i=>Xq (i:=i) (j:=11) ⟨by decide,by decide⟩
 unfold zu Yl
 rw[yx,st]
 simp only[zU,yj,ye,yn,zM,yM,yI,zA,zS,List.getElem?_cons_zero,List.getElem?_cons_succ,zE,Rs.bind_ok,zj5 ns k h63 h0,xQ,m1,q1,xW,q2,e1,Fl.of_ok,yw,List.set_cons_succ,List.set_cons_zero,q3,f3,m2,e2,q4,f7,m3,f11,m4,zZ]
 rfl
theorem vh(ns:List Int)(k:Int){m:Int}(hm:0<m):0≤wd ns k m∧wd ns k m<m:=⟨Int.emod_nonneg _ (by lia),Int.emod_lt_of_pos _ hm⟩
end Law
set_option Elab.async false
set_option linter.all false
namespace FD
open PySem PySem.Spec PyProof.Rows L2
theorem Vm{set:FG}{body:FS}(f:Nat→D)(S:Nat→DS):∀(m j:Nat),(∀k,j≤k→k<j+m→∃τ1,set (f k) (S k)=.ok τ1∧body τ1=.nx (S (k+1)))→yO set body ((List.range' j m).map f) (S j)=.nx (S (j+m)):=by
 intro l_
 induction l_ with
 |zero=>
  rintro j _
  exact rfl
 |succ m ih_=>
  rintro j h
  refine X11 (h j (Nat.le_refl _) (by lia)) fun τ1 h1 h2=>?_
  rw[List.range'_succ,List.map_cons,yO,h1,Fl.of_ok]
  simp only[h2]
  rw[ih_ (j+1) fun k hk hk2=>h k (by lia) (by lia)]
  congr 2;lia
theorem Qk{set:FG}{body:FS}(f:Nat→D)(S:Nat→DS)(n:Nat)(h:∀k,k<n→∃τ1,set (f k) (S k)=.ok τ1∧body τ1=.nx (S (k+1))):yO set body ((List.range n).map f) (S 0)=.nx (S n):=by
 have:=Vm f S n 0 fun k _ hk=>h k (by lia)
 rw[Nat.zero_add] at this
 rwa [List.range_eq_range']
theorem VT{fs:FA}{τ:DS}{j:Int}(h:fs τ=.ok [.int j])(h1 : -(2 ^ 62)≤j)(h2:j<2 ^ 62):vi fs τ=.ok (jr 0 j.toNat):=by
 unfold vi
 rw[h]
 simp only[Rs.bind_ok,Qn]
 rw[if_pos ⟨h1,h2⟩]
theorem QM(a:List Nat)(c:Nat):(⟨a.toArray⟩:Str)++(⟨#[c]⟩:Str)=⟨(a++[c]).toArray⟩:=by
 show Str.mk _=_
 simp
theorem Zx{n:Nat}{d:D}{τ:DS}:gNm n d τ=.ok (τ.set n (some (.val d))):=rfl
end FD
namespace Law
open PySem PySem.Spec PyProof.Rows L2 FD
noncomputable def A18:List Nat:=[97,98,99,97,98,65,66,67,97,98,49,95,45,46,47,120,121,122]
noncomputable def Vj(ns:List Int)(a:Int):Nat:=(1+wd ns a 10).toNat
noncomputable def Lr(ns:List Int)(a:Int)(k:Nat):Nat:=A18.getD (wd ns (a+1+k) 18).toNat 0
noncomputable def up(ns:List Int)(a:Int)(n:Nat):List Nat:=(List.range n).map (Lr ns a)
theorem a18:("abcabABCab1_-./xyz" : Str).cps.toList=A18:=by decide +kernel
theorem zg5(ns:List Int)(a:Int)(h63:ns.length≤63)(h0:0≤a)(ha:a<900000):xI [.scr ns,.int a]=.ok (.str ⟨(up ns a (Vj ns a)).toArray⟩):=by
 have st:z0 4 [D.scr ns,.int a]=[some (.val (.scr ns)),some (.val (.int a)),none,none]:=rfl
 have dl:=vh ns a (m:=10) (by decide)
 unfold xI Y4
 rw[yx,st,zU,yj,yM,Fl.of_ok,yw,zU,wZ]
 have r1:=VT (fs:=za (eOp zV (eC (.int 1)) (zv zu (za (ze 0) (za (ze 1) (za (eC (.int 10)) zi))))) zi) (τ:=[some (.val (.scr ns)),some (.val (.int a)),some (.val (.str "")),none]) (j:=1+wd ns a 10)
  (by simp only[zA,zS,yn,yM,yI,zM,List.getElem?_cons_zero,List.getElem?_cons_succ,zE,Rs.bind_ok,vg ns a 10 h63 h0 (by lia) (by decide),xQ,xW]) (by lia) (by lia)
 simp only[List.set_cons_succ,List.set_cons_zero]
 rw[r1,Fl.of_ok]
 let S:Nat→DS:=fun k=>[some (.val (.scr ns)),some (.val (.int a)),some (.val (.str ⟨(up ns a k).toArray⟩)),if k=0 then none else some (.val (.int ((k:Int)-1)))]
 have s0:S 0=[some (.val (.scr ns)),some (.val (.int a)),some (.val (.str "")),none]:=by
  simp only[S,up,List.range_zero,List.map_nil,if_true]
  rfl
 rw[← s0]
 have lp:=Qk (set:=gNm 3) (body:=(yQ 2 (eOp zV (ze 2) (eOp ixD (eC (.str "abcabABCab1_-./xyz")) (zv zu (za (ze 0) (za (eOp zV (eOp zV (ze 1) (eC (.int 1))) (ze 3)) (za (eC (.int 18)) zi)))))))) (fun (k:Nat)=>D.int (0+k)) S (1+wd ns a 10).toNat fun k hk=>by
  refine Y11 _ Zx ?_
  have hk':(k:Int)<20:=by lia
  have dk:=vh ns (a+1+(0+(k:Int))) (m:=18) (by decide)
  have hd:=vg ns (a+1+(0+(k:Int))) 18 h63 (by lia) (by lia) (by decide)
  have hix:=Xn (a := "abcabABCab1_-./xyz") (k:=wd ns (a+1+(0+(k:Int))) 18) (c:=A18.getD (wd ns (a+1+(0+(k:Int))) 18).toNat 0) (Wr dk.1 (by
   rw[a18]
   have:(wd ns (a+1+(0+(k:Int))) 18).toNat<A18.length:=by
    have:A18.length=18:=rfl
    lia
   rw[List.getD_eq_getElem?_getD,List.getElem?_eq_getElem this];rfl)) (by decide +kernel)
  have hadd:=QE (a:=⟨(up ns a k).toArray⟩) (b:=⟨#[A18.getD (wd ns (a+1+(0+(k:Int))) 18).toNat 0]⟩) (by
   show(up ns a k).toArray.size+1≤sizeLine
   rw[zK,List.size_toArray]
   simp only[up,List.length_map,List.length_range];lia)
  simp only[S,List.set_cons_succ,List.set_cons_zero,yj,yn,yM,yI,zA,zS,zM,List.getElem?_cons_zero,List.getElem?_cons_succ,zE,Rs.bind_ok,xW,hd,xQ,hix,zH,hadd,Fl.of_ok,QM]
  have e1:up ns a k++[A18.getD (wd ns (a+1+(0+(k:Int))) 18).toNat 0]=up ns a (k+1):=by
   simp only[up,List.range_succ,List.map_append,List.map_cons,List.map_nil,Lr,Int.zero_add]
  rw[e1]
  simp
 unfold jr
 rw[lp,yw]
 simp only[S,ye,zM,List.getElem?_cons_zero,List.getElem?_cons_succ,zE,Fl.of_ok,zZ]
 rfl
end Law
set_option Elab.async false
set_option linter.all false
namespace FD
open PySem PySem.Spec PyProof.Rows L2
theorem Jb{set:FG}{body:FS}(f:Nat→D)(I:Nat→DS→Prop):∀(m j:Nat) (τ:DS),I j τ→(∀k τ,j≤k→k<j+m→I k τ→∃τ1 τ2,set (f k) τ=.ok τ1∧body τ1=.nx τ2∧I (k+1) τ2)→∃τ',yO set body ((List.range' j m).map f) τ=.nx τ'∧I (j+m) τ':=by
 intro l_
 induction l_ with
 |zero=>
  rintro j τ h _
  exact Y11 τ rfl h
 |succ m ih_=>
  rintro j τ h hs
  refine X22 (hs j τ (Nat.le_refl _) (by lia) h) fun τ1 τ2 h1 h2 h3=>?_
  refine X11 (ih_ (j+1) τ2 h3 fun k τ hk hk2=>hs k τ (by lia) (by lia)) fun τ' h4 h5=>?_
  refine Y11 τ' ?_ (by rw[show j+(m+1)=j+1+m by lia];exact h5)
  rw[List.range'_succ,List.map_cons,yO,h1,Fl.of_ok]
  simp only[h2,h4]
theorem j2{set:FG}{body:FS}(f:Nat→D)(I:Nat→DS→Prop)(n:Nat)(τ:DS)(h0:I 0 τ)(h:∀k τ,k<n→I k τ→∃τ1 τ2,set (f k) τ=.ok τ1∧body τ1=.nx τ2∧I (k+1) τ2):∃τ',yO set body ((List.range n).map f) τ=.nx τ'∧I n τ':=by
 refine X11 (Jb f I n 0 τ h0 fun k τ _ hk hi=>h k τ (by lia) hi) fun τ' h1 h2=>?_
 rw[Nat.zero_add] at h2
 exact Y11 τ' (by rw[List.range_eq_range'];exact h1) h2
end FD
namespace Law
open PySem PySem.Spec PyProof.Rows L2 FD
noncomputable def QS:List Nat:=[97,98,99,120,121,122,65,66,49]
noncomputable def MK:List Nat:=[95,45,46,47]
theorem My:("_-./" : Str).cps.toList=MK:=by decide +kernel
theorem zg6(c:Nat):xJ [zH c]=.ok (.bl (decide (c∈MK))):=by
 have st:z0 1 [zH c]=[some (.val (zH c))]:=rfl
 unfold xJ Y5
 rw[yx,st]
 simp only[ye,yn,zM,yM,List.getElem?_cons_zero,zE,Rs.bind_ok,zH,YY,wU,My,Fl.of_ok,zZ]
theorem Tk(x:List Nat){i j:Int}(h0:0≤i)(h1:i≤j)(h2:j≤x.length):Txt.slice (⟨x.toArray⟩:Str) (some i) (some j)=⟨((x.drop i.toNat).take (j-i).toNat).toArray⟩:=by
 have:=slice_closesL (x:=⟨x.toArray⟩) (i:=i) (j:=j) h0 h1 (by show j≤((x.toArray.size:Nat):Int);simpa using h2)
 exact eq_of_beq this
theorem G6(x:List Nat)(p:Nat)(hp:p<x.length):Txt.slice (⟨x.toArray⟩:Str) (some (p:Int)) (some ((p:Int)+1))=⟨#[x[p]]⟩:=by
 rw[Tk x (by lia) (by lia) (by lia)]
 have e1:((p:Int)+1-(p:Int)).toNat=1:=by lia
 have e2:((p:Int)).toNat=p:=by lia
 rw[e1,e2,List.drop_eq_getElem_cons hp]
 rfl
theorem MA(c:Nat)(h:c<128):Txt.lower (⟨#[c]⟩:Str)=⟨#[lo1 c]⟩:=by
 rw[lower_ascii (x:=⟨#[c]⟩) (by intro d hd;have e:d=c:=(by simpa using hd);lia)]
 simp
noncomputable def NS:List Nat:=[97,98,99,65,66,67,49,95,45,46,47,120,121,122]
theorem Mx(ns:List Int)(a:Int)(k:Nat)(h:0≤a+1+k):Lr ns a k∈NS:=by
 have d:=vh ns (a+1+k) (m:=18) (by decide)
 have hall:∀n,n<18→A18.getD n 0∈NS:=by decide
 exact hall _ (by lia)
noncomputable def S6:List Nat:=[97,98,65,66,49,99]
theorem s6_l:("abAB1c" : Str).cps.toList=S6:=by decide +kernel
theorem Gr:∀c∈NS,c<128∧(lo1 c∈QS∨lo1 c∈MK):=by decide
theorem zd1:∀n,n<6→S6.getD n 0∈QS:=by decide
set_option maxHeartbeats 1000000
noncomputable def UR:FS:=(zI (yQ 5 (yd Z2 (za (eOp vV (yd yr (za (ze 2) zi)) (eC (.int 1))) (za (eOp zV (ze 5) (zv zu (za (ze 0) (za (eOp zV (eOp zV (ze 1) (eC (.int 1))) (eOp jC (eC (.int 3)) (ze 6))) (za (eC (.int 3)) zi))))) zi))))
  (zI (yQ 7 (Qv "str" loD (eOr (eSl (ze 2) (wt (ze 5)) (wt (eOp zV (ze 5) (eC (.int 1))))) (eC (.str "a")))))
  (zI (yQ 5 (eOp zV (ze 5) (eC (.int 1))))
  (zI (sIf (FD.tB (eOp eqD (zv zu (za (ze 0) (za (eOp zV (eOp zV (ze 1) (eC (.int 2))) (eOp jC (eC (.int 3)) (ze 6))) (za (eC (.int 5)) zi)))) (eC (.int 0)))) (yQ 7 (eOp ixD (eC (.str "abAB1c")) (zv zu (za (ze 0) (za (eOp zV (eOp zV (ze 1) (eC (.int 3))) (eOp jC (eC (.int 3)) (ze 6))) (za (eC (.int 6)) zi)))))) yf)
  (sIf (wJ (wB (zv xJ (za (ze 7) zi)))) (yQ 4 (eOp zV (ze 4) (ze 7))) yf)))))
noncomputable def qSt(ns:List Int)(a:Int)(x:List Nat)(most:Int)(q:List Nat)(p:Int)(s1 s2:Option Sl):DS:=
 [some (.val (.scr ns)),some (.val (.int a)),some (.val (.str ⟨x.toArray⟩)),some (.val (.int most)),some (.val (.str ⟨q.toArray⟩)),some (.val (.int p)),s1,s2]
theorem J1(ns:List Int)(a:Int)(x:List Nat)(most:Int)(q:List Nat)(p:Int)(k:Nat)(s2:Option Sl)(h63:ns.length≤63)(h0:0≤a)(ha:a<900000)(hk:k<100)(hx0:0<x.length)(hx1:x.length≤100)(hx:∀c∈x,c∈NS)(hq:q.length≤100)(hqs:∀c∈q,c∈QS)(hp:0≤p) :
  ∃q' p' s',UR (qSt ns a x most q p (some (.val (.int (0+k)))) s2)=.nx (qSt ns a x most q' p' (some (.val (.int (0+k)))) s')∧q'.length≤q.length+1∧(∀c∈q',c∈QS)∧0≤p':=by
 have hl:((⟨x.toArray⟩:Str).length:Int)=x.length:=by show((x.toArray.size:Nat):Int)=_;simp
 have hsz:(⟨x.toArray⟩:Str).length≤sizeLine:=by rw[zK];show x.toArray.size≤_;simp;lia
 have m3:=jB (i:=3) (j:=0+(k:Int)) (.inl ⟨by decide,by decide⟩)
 have g1:=vg ns (a+1+3*(0+(k:Int))) 3 h63 (by lia) (by lia) (by decide)
 have g2:=vg ns (a+2+3*(0+(k:Int))) 5 h63 (by lia) (by lia) (by decide)
 have g3:=vg ns (a+3+3*(0+(k:Int))) 6 h63 (by lia) (by lia) (by decide)
 have b1:=vh ns (a+1+3*(0+(k:Int))) (m:=3) (by decide)
 have b3:=vh ns (a+3+3*(0+(k:Int))) (m:=6) (by decide)
 generalize wd ns (a+1+3*(0+(k:Int))) 3=e1 at *
 generalize wd ns (a+2+3*(0+(k:Int))) 5=e2 at *
 generalize wd ns (a+3+3*(0+(k:Int))) 6=e3 at *
 obtain⟨n,hn,hmin⟩:∃n:Nat,n<x.length∧(if p+e1<(x.length:Int)-1 then p+e1 else (x.length:Int)-1)=(n:Int):=by
  by_cases h:p+e1<(x.length:Int)-1
  ·exact Y11 ((p+e1).toNat) (by lia) (by rw[if_pos h];lia)
  ·exact Y11 (x.length-1) (by lia) (by rw[if_neg h];lia)
 have hmn:Z2 [.int ((x.length:Int)-1),.int (p+e1)]=.ok (.int n):=by
  simp only[Z2,WP];rw[hmin]
 have hsl:slD (.str ⟨x.toArray⟩) (some (n:Int)) (some ((n:Int)+1))=.ok (.str ⟨#[x[n]]⟩):=by
  simp only[slD]
  rw[if_pos hsz,G6 x n hn]
 have hxn:=hx x[n] (List.getElem_mem hn)
 have hlo:loD (.str ⟨#[x[n]]⟩) []=.ok (.str ⟨#[lo1 x[n]]⟩):=by
  simp only[loD]
  rw[if_pos (by show 1≤5000000;decide),MA _ (Gr _ hxn).1]
 have htr:Yq (.str ⟨#[x[n]]⟩)=.ok true:=by
  rw[M9 (by rw[zK];show 1≤_;decide)];rfl
 have hix:ixD (.str "abAB1c") (.int e3)=.ok (zH (S6.getD e3.toNat 0)):=Xn (Wr b3.1 (by
   rw[s6_l]
   have:e3.toNat<S6.length:=by show e3.toNat<6;lia
   rw[List.getD_eq_getElem?_getD,List.getElem?_eq_getElem this];rfl)) (by decide +kernel)
 have key:∀c:Nat,(c∈QS∨c∈MK)→∃q' s',(sIf (wJ (wB (zv xJ (za (ze 7) zi)))) (yQ 4 (eOp zV (ze 4) (ze 7))) yf) (qSt ns a x most q ((n:Int)+1) (some (.val (.int (0+k)))) (some (.val (zH c))))=.nx (qSt ns a x most q' ((n:Int)+1) (some (.val (.int (0+k)))) s')∧q'.length≤q.length+1∧∀c∈q',c∈QS:=fun c hc=>by
  have hadd:=QE (a:=⟨q.toArray⟩) (b:=⟨#[c]⟩) (by
   show q.toArray.size+1≤sizeLine
   rw[zK,List.size_toArray];lia)
  simp only[qSt,yK,QK,ue,yI,zA,zS,zM,List.getElem?_cons_zero,List.getElem?_cons_succ,zE,Rs.bind_ok,zg6,xQ,vN,Fl.of_ok]
  by_cases hm:c∈MK
  ·exact Y22 q (some (.val (zH c))) (by simp only[hm,decide_true,Bool.not_true,Bool.false_eq_true,if_false,ya]) (by lia) hqs
  ·refine Y22 (q++[c]) (some (.val (zH c))) (by simp only[hm,decide_false,Bool.not_false,if_true,yj,yn,zM,List.getElem?_cons_zero,List.getElem?_cons_succ,zE,Rs.bind_ok,zH,hadd,Fl.of_ok,List.set_cons_succ,List.set_cons_zero,QM]) (by simp) (fun d hd=>?_)
   rcases List.mem_append.mp hd with h|h
   ·exact hqs d h
   ·have:d=c:=by simpa using h
    subst this
    exact hc.resolve_right hm
 unfold UR
 simp only[qSt,zU,yj,vf,zA,zS,yn,zM,yM,yI,List.getElem?_cons_zero,List.getElem?_cons_succ,zE,Rs.bind_ok,Je hsz,hl,vF,xW,m3,g1,xQ,hmn,Fl.of_ok,List.set_cons_succ,List.set_cons_zero,yw,
  GK,Qu,L5,XX,UK,hsl,htr,if_true,WO,decide_true,hlo,yK,wg,g2,uR,z8]
 by_cases hz:e2=0
 ·subst hz
  refine X22 (key (S6.getD e3.toNat 0) (.inl (zd1 _ (by lia)))) fun q' s' h1 h2 h3=>?_
  simp only[qSt] at h1
  refine⟨q',(n:Int)+1,s',?_,h2,h3,by lia⟩
  simp only[beq_self_eq_true,if_true,g3,xQ,Rs.bind_ok,hix,Fl.of_ok,yw]
  exact h1
 ·refine X22 (key (lo1 x[n]) (Gr _ hxn).2) fun q' s' h1 h2 h3=>?_
  simp only[qSt] at h1
  refine⟨q',(n:Int)+1,s',?_,h2,h3,by lia⟩
  have hb:(e2==0)=false:=by simpa using hz
  simp only[hb,Bool.false_eq_true,if_false,ya,yw]
  exact h1
theorem Tv(ns:List Int)(a:Int)(x:List Nat)(most:Int)(h63:ns.length≤63)(h0:0≤a)(ha:a<900000)(hm0:0≤most)(hm1:most<50)(hx0:0<x.length)(hx1:x.length≤100)(hx:∀c∈x,c∈NS) :
  ∃q:List Nat,(q.length:Int)≤most∧(∀c∈q,c∈QS)∧xS [.scr ns,.int a,.str ⟨x.toArray⟩,.int most]=.ok (.str ⟨q.toArray⟩):=by
 have st:z0 8 [D.scr ns,.int a,.str ⟨x.toArray⟩,.int most]=[some (.val (.scr ns)),some (.val (.int a)),some (.val (.str ⟨x.toArray⟩)),some (.val (.int most)),none,none,none,none]:=rfl
 have dl:=vh ns a (m:=most+1) (by lia)
 have dk:=vg ns a (most+1) h63 h0 (by lia) (by lia)
 generalize hN:wd ns a (most+1)=N at *
 have r1:=VT (fs:=za (zv zu (za (ze 0) (za (ze 1) (za (eOp zV (ze 3) (eC (.int 1))) zi)))) zi) (τ:=qSt ns a x most [] 0 none none) (j:=N)
  (by simp only[qSt,zA,zS,yn,yM,yI,zM,List.getElem?_cons_zero,List.getElem?_cons_succ,zE,Rs.bind_ok,xW,dk,xQ]) (by lia) (by lia)
 obtain⟨τ',l1,q,p,s1,s2,rfl,l2,l3,l4⟩:=j2 (set:=gNm 6) (body:=UR) (fun (k:Nat)=>D.int (0+k)) (fun k τ=>∃q p s1 s2,τ=qSt ns a x most q p s1 s2∧q.length≤k∧(∀c∈q,c∈QS)∧0≤p) N.toNat (qSt ns a x most [] 0 none none)
  ⟨[],0,none,none,rfl,Nat.le_refl _,(fun _ h=>nomatch h),Int.le_refl _⟩ fun k τ hk z_=>by
   obtain⟨q,p,s1,s2,e,h1,h2,h3⟩:=z_
   subst e
   obtain⟨q',p',s',g1,g2,g3,g4⟩:=J1 ns a x most q p k s2 h63 h0 ha (by lia) hx0 hx1 hx (by lia) h2 h3
   exact⟨_,_,Zx,g1,q',p',_,s',rfl,by lia,g3,g4⟩
 refine Y12 q (by lia) l3 ?_
 have s0:qSt ns a x most [] 0 none none=[some (.val (.scr ns)),some (.val (.int a)),some (.val (.str ⟨x.toArray⟩)),some (.val (.int most)),some (.val (.str "")),some (.val (.int 0)),none,none]:=rfl
 unfold xS Yk
 rw[yx,st,zU,yj,yM,Fl.of_ok,yw,zU,yj,yM,Fl.of_ok,yw,zU,wZ]
 simp only[List.set_cons_succ,List.set_cons_zero]
 rw[← s0,r1,Fl.of_ok]
 unfold jr
 have l1':yO (gNm 6) UR ((List.range N.toNat).map fun (k:Nat)=>D.int (0+k)) (qSt ns a x most [] 0 none none)=.nx (qSt ns a x most q p s1 s2):=l1
 unfold UR at l1'
 rw[l1',yw]
 simp only[qSt,ye,zM,List.getElem?_cons_zero,List.getElem?_cons_succ,zE,Fl.of_ok,zZ]
noncomputable def xF(c d:Nat):Bool:=c==d||(decide (97≤c∧c≤122)&&up1 c==d)
theorem zc4:("abcdefghijklmnopqrstuvwxyz" : Str).cps.toList=(List.range 26).map (· + 97):=by decide +kernel
theorem uF(c:Nat):decide (c∈("abcdefghijklmnopqrstuvwxyz" : Str).cps.toList)=decide (97≤c∧c≤122):=by
 rw[zc4]
 apply decide_eq_decide.mpr
 rw[List.mem_map]
 constructor
 ·rintro⟨i,hi,rfl⟩
  have:=List.mem_range.mp hi
  lia
 ·intro h
  exact Y11 (c-97) (List.mem_range.mpr (by lia)) (by lia)
theorem GY(c:Nat)(h:c<128):Txt.upper (⟨#[c]⟩:Str)=⟨#[up1 c]⟩:=by
 rw[upper_ascii (x:=⟨#[c]⟩) (by intro d hd;have e:d=c:=(by simpa using hd);lia)]
 simp
theorem Qa(c d:Nat):((⟨#[c]⟩:Str)==⟨#[d]⟩)=(c==d):=by
 rw[Bool.eq_iff_iff]
 simp
theorem X2(c d:Nat)(hc:c<128):wc [zH c,zH d]=.ok (.bl (xF c d)):=by
 have st:z0 2 [zH c,zH d]=[some (.val (zH c)),some (.val (zH d))]:=rfl
 have hup:upD (.str ⟨#[c]⟩) []=.ok (.str ⟨#[up1 c]⟩):=by
  simp only[upD]
  rw[if_pos (by show 1≤5000000;decide),GY _ hc]
 unfold wc GP
 rw[yx,st]
 simp only[ye,Qu,GL,yn,zM,yM,GK,List.getElem?_cons_zero,List.getElem?_cons_succ,zE,Rs.bind_ok,zH,L0,Qa,vN,YY,wU,uF,WO,decide_true,if_true,hup]
 unfold xF
 by_cases h:c=d
 ·subst h;simp
 ·have hb:(c==d)=false:=by simpa using h
  simp only[hb,Bool.false_eq_true,if_false,Bool.false_or]
  by_cases h2:97≤c∧c≤122
  ·simp[h2]
  ·simp[h2]
end Law
set_option Elab.async false
set_option linter.all false
set_option maxHeartbeats 1000000
namespace FD
open PySem PySem.Spec PyProof.Rows L2
section
variable{τ:DS}{fa fb fe fi:FE}{fs:FA}{n:Nat}{i:Int}
theorem Yf:Yg n τ=(Jr τ[n]?).bind fun ds=>.ok (.int ds.length):=rfl
theorem ug:WB n fe τ=Fl.of (Jr τ[n]?) fun ds=>Fl.of (fe τ) fun d=>if ds.length<sizeLine then .nx (τ.set n (some (.own (ds++[d])))) else .no:=rfl
theorem Z6:ve fe τ=(fe τ).bind Ji:=rfl
@[simp] theorem Jh{x:Str}:Ji (.str x)=.ok (jv x):=rfl
@[simp] theorem LL{ds:List D}:Ji (.lst ds)=.ok ds:=rfl
noncomputable def putAt(n:Nat)(ds:List D)(d:D)(τ:DS):D→Fl
 |.int k=>match ixN ds.length k with
  |some j=>.nx (τ.set n (some (.own (ds.set j d))))
  |none=>.no
 |_=>.no
theorem VP:G9 n fi fe τ=Fl.of (fe τ) fun d=>Fl.of (Jr τ[n]?) fun ds=>Fl.of (fi τ) (putAt n ds d τ):=by
 unfold G9 uk
 cases fe τ <;> rfl
theorem Tz{ds:List D}{d:D}{j:Nat}(h:j<ds.length):putAt n ds d τ (.int j)=.nx (τ.set n (some (.own (ds.set j d)))):=by
 have:ixN ds.length (j:Int)=some j:=by
  unfold ixN
  rw[if_pos (by lia),if_pos (by lia)]
  simp
 simp only[putAt,this]
noncomputable def ixO(ds:List D):D→Rs D
 |.int k=>match atI ds k with
  |some d=>.ok d
  |none=>.no
 |_=>.no
theorem zj3:MR n fi τ=(Jr τ[n]?).bind fun ds=>(fi τ).bind (ixO ds):=by
 unfold MR
 show(Jr τ[n]?).bind _=_
 cases Jr τ[n]? <;> rfl
end
end FD
namespace Law
open PySem PySem.Spec PyProof.Rows L2 FD
noncomputable abbrev tx(x:List Nat):D:=.str ⟨x.toArray⟩
noncomputable abbrev nts(x:List Nat):D:=.lst (x.map fun (k:Nat)=>D.int k)
theorem wb(x:List Nat)(h:x.length≤1000):yr [tx x]=.ok (.int x.length):=by
 rw[Je (by rw[zK];show x.toArray.size≤_;simp;lia)]
 show Rs.ok (D.int ((x.toArray.size:Nat):Int))=_
 simp
theorem M7(x:List Nat)(j:Nat)(c:Nat)(h:x[j]?=some c)(hl:x.length≤1000):ixD (tx x) (.int j)=.ok (zH c):=by
 refine Xn (Wr (by lia) (by simpa using h)) (by rw[zK];show x.toArray.size≤_;simp;lia)
theorem UA(x:List Nat):jv ⟨x.toArray⟩=x.map zH:=by simp[jv]
noncomputable def epR:List Nat→List Nat→Nat→List Nat
 |[],_,_=>[]
 |_::_,[],_=>[]
 |a::q,c::x,k=>if xF a c=true then k::epR q x (k+1) else epR (a::q) x (k+1)
noncomputable def xa:List Nat→List Nat→Bool
 |[],_=>true
 |_::_,[]=>false
 |a::q,c::x=>if xF a c=true then xa q x else xa (a::q) x
theorem Yc:∀(q x:List Nat) (k:Nat),((epR q x k).length=q.length)↔xa q x=true
 |[],x,k=>by simp[epR,xa]
 |a::q,[],k=>by simp[epR,xa]
 |a::q,c::x,k=>by
  simp only[epR,xa]
  split
  ·simpa using Yc q x (k+1)
  ·exact Yc (a::q) x (k+1)
noncomputable def VS(n:Int):Int→List Int→Bool
 |_,[]=>true
 |a,t::r=>if t<a∨n≤t then false else VS n (t+1) r
noncomputable def mt2(x:List Nat):List Nat→List Int→List Bool
 |a::q,t::l=>xF a (x.getD t.toNat 0)::mt2 x q l
 |_,_=>[]
noncomputable def zs5(q x:List Nat)(l:List Int):Bool:=(l.length==q.length)&&(VS x.length 0 l&&(mt2 x q l).all id)
theorem Yh{set:FG}{fe:FE}{τ:DS}{α β:Type}(f:α→D)(g:β→D)(h:α→β):∀(xs:List α),(∀a∈xs,∃τ1,set (f a) τ=.ok τ1∧fe τ1=.ok (g (h a)))→vE set (fun _=>.ok true) fe τ (xs.map f)=.ok ((xs.map h).map g):=by
 intro l_
 induction l_ with
 |nil=>
  rintro _
  exact rfl
 |cons a xs ih_=>
  rintro hs
  refine X11 (hs a (List.mem_cons_self ..)) fun τ1 h1 h2=>?_
  rw[List.map_cons,vE,h1]
  simp only[h2,ih_ fun b hb=>hs b (List.mem_cons_of_mem _ hb),Rs.bind_ok,List.map_cons]
end Law
set_option Elab.async false
set_option linter.all false
set_option maxHeartbeats 1000000
namespace FD
open PySem PySem.Spec PyProof.Rows L2
theorem vI(x:List Nat):(⟨x.toArray⟩:Str).length=x.length:=by show x.toArray.size=_;simp
theorem UL(x:List Nat)(n:Nat):Txt.slice (⟨x.toArray⟩:Str) none (some (n:Int))=⟨(x.take n).toArray⟩:=by
 have:=eq_of_beq (slice_to_min_closes (x:=⟨x.toArray⟩) (n:=(n:Int)) (m:=_) (by lia) rfl)
 rw[this]
 congr 2
 rw[vI]
 show(List.drop (0:Int).toNat x).take _=_
 rw[show(0:Int).toNat=0 from rfl,List.drop_zero]
 split
 ·rw[List.take_of_length_le (by lia),List.take_of_length_le (by lia)]
 ·congr 1
theorem JX(x:List Nat)(i:Nat)(h:i≤x.length):Txt.slice (⟨x.toArray⟩:Str) (some (i:Int)) none=⟨(x.drop i).toArray⟩:=by
 have:=eq_of_beq (slice_closes_fromL (x:=⟨x.toArray⟩) (i:=(i:Int)) (b:=_) (by lia) (by rw[vI];lia) rfl)
 rw[this]
 congr 2
 rw[vI,Int.toNat_natCast]
 show(List.drop i x).take _=_
 rw[List.take_of_length_le (by rw[List.length_drop];lia)]
theorem zb9(a b:List Nat):(⟨a.toArray⟩:Str)++(⟨b.toArray⟩:Str)=⟨(a++b).toArray⟩:=by
 show Str.mk _=_
 simp
theorem wA{set:FG}{ft:FT}{fe:FE}{τ:DS}{α:Type}(f g:α→D)(p:α→Bool):∀(xs:List α),(∀a∈xs,∃τ1,set (f a) τ=.ok τ1∧ft τ1=.ok (p a)∧fe τ1=.ok (g a))→vE set ft fe τ (xs.map f)=.ok ((xs.filter p).map g):=by
 intro l_
 induction l_ with
 |nil=>
  rintro _
  exact rfl
 |cons a xs ih_=>
  rintro hs
  refine X12 (hs a (List.mem_cons_self ..)) fun τ1 h1 h2 h3=>?_
  have ih:=ih_ fun b hb=>hs b (List.mem_cons_of_mem _ hb)
  rw[List.map_cons,vE,h1]
  cases hp:p a
  ·rw[hp] at h2
   simp only[h2,ih,List.filter_cons,hp,Bool.false_eq_true,if_false]
  ·rw[hp] at h2
   simp only[h2,h3,ih,List.filter_cons,hp,if_true,Rs.bind_ok,List.map_cons]
end FD
namespace Law
open PySem PySem.Spec PyProof.Rows L2 FD
theorem f1:∀a∈QS,∀c∈NS,xF (lo1 a) c=xF (lo1 a) (lo1 c):=by decide
theorem f2:∀a∈QS,∀c∈NS,xF a c=true→xF (lo1 a) c=true:=by decide
theorem f3:∀a∈QS,∀c∈NS,xF a c=true→lo1 c=lo1 a:=by decide
theorem Qs(n:Int):∀(q x:List Nat) (k:Nat) (a:Int),a≤k→(k:Int)+x.length≤n→VS n a ((epR q x k).map fun (t:Nat)=>(t:Int))=true
 |[],x,k,a,_,_=>by simp[epR,VS]
 |_::_,[],k,a,_,_=>by simp[epR,VS]
 |b::q,c::x,k,a,h1,h2=>by
  simp only[List.length_cons] at h2
  simp only[epR]
  split
  ·simp only[List.map_cons,VS]
   rw[if_neg (by lia)]
   exact Qs n q x (k+1) _ (by lia) (by lia)
  ·exact Qs n (b::q) x (k+1) a (by lia) (by lia)
theorem MT{x0 x:List Nat}{c k:Nat}(h:x0.drop k=c::x):x0.drop (k+1)=x∧x0.getD k 0=c:=by
 have h1:x0[k]?=some c:=by
  have:=congrArg (fun l=>l[0]?) h
  simpa using this
 constructor
 ·rw[← List.drop_drop,h];rfl
 ·rw[List.getD_eq_getElem?_getD,h1];rfl
theorem L4(x0:List Nat)(f:Nat→Nat):∀(q x:List Nat) (k:Nat),x0.drop k=x→(∀a∈q,∀c∈x,xF a c=true→xF (f a) c=true)→(mt2 x0 (q.map f) ((epR q x k).map fun (t:Nat)=>(t:Int))).all id=true
 |[],x,k,_,_=>by simp[epR,mt2]
 |_::_,[],k,_,_=>by simp[epR,mt2]
 |b::q,c::x,k,h1,h2=>by
  obtain⟨h3,h4⟩:=MT h1
  simp only[epR]
  split
  ·rename_i hm
   simp only[List.map_cons,mt2,Int.toNat_natCast,h4,h2 b (List.mem_cons_self ..) c (List.mem_cons_self ..) hm,List.all_cons,id,Bool.true_and]
   exact L4 x0 f q x (k+1) h3 fun a ha d hd=>h2 a (List.mem_cons_of_mem _ ha) d (List.mem_cons_of_mem _ hd)
  ·exact L4 x0 f (b::q) x (k+1) h3 fun a ha d hd=>h2 a ha d (List.mem_cons_of_mem _ hd)
structure Lay(q x l:List Nat):Prop where
 len:l.length=q.length
 ris:∀j,j+1<l.length→l.getD j 0<l.getD (j+1) 0
 inn:∀j,j<l.length→l.getD j 0<x.length
 met:∀j,j<l.length→xF (q.getD j 0) (x.getD (l.getD j 0) 0)=true
noncomputable abbrev toI(l:List Nat):List Int:=l.map fun (t:Nat)=>(t:Int)
theorem VR(n:Nat):∀(l:List Nat) (a:Nat),VS n a (toI l)=true↔((∀j,j+1<l.length→l.getD j 0<l.getD (j+1) 0)∧(∀j,j<l.length→l.getD j 0<n)∧(0<l.length→a≤l.getD 0 0)):=by
 intro l_
 induction l_ with
 |nil=>
  rintro a
  simp[VS]
 |cons t r ih_=>
  rintro a
  have ih:=ih_ (t+1)
  simp only[List.map_cons,VS]
  constructor
  ·intro h
   split at h
   ·nomatch h
   ·rename_i g
    have e:((t:Int)+1)=((t+1:Nat):Int):=by lia
    rw[e] at h
    refine X02 (ih.mp h) fun h1 h2 h3=>?_
    refine⟨fun j hj=>?_,fun j hj=>?_,fun _=>?_⟩
    ·cases j with
     |zero=>have:=h3 (by simpa using hj);exact Nat.lt_of_succ_le (by simpa using this)
     |succ j=>simpa using h1 j (by simpa using hj)
    ·cases j with
     |zero=>simp;lia
     |succ j=>simpa using h2 j (by simpa using hj)
    ·simp;lia
  ·rintro⟨h1,h2,h3⟩
   have a1:=h2 0 (by simp)
   have a2:=h3 (by simp)
   simp only[List.getD_cons_zero] at a1 a2
   rw[if_neg (by lia)]
   have e:((t:Int)+1)=((t+1:Nat):Int):=by lia
   rw[e]
   refine ih.mpr ⟨fun j hj=>?_,fun j hj=>?_,fun h0=>?_⟩
   ·simpa using h1 (j+1) (by simpa using hj)
   ·simpa using h2 (j+1) (by simpa using hj)
   ·exact Nat.succ_le_of_lt (by simpa using h1 0 (by simpa using h0))
theorem Ub(x:List Nat):∀(q l:List Nat),l.length=q.length→((mt2 x q (toI l)).all id=true↔∀j,j<l.length→xF (q.getD j 0) (x.getD (l.getD j 0) 0)=true)
 |[],[],_=>by simp[mt2]
 |[],_::_,h=>by simp at h
 |_::_,[],h=>by simp at h
 |a::q,t::l,h=>by
  have ih:=Ub x q l (by simpa using h)
  simp only[List.map_cons,mt2,List.all_cons,id,Bool.and_eq_true,Int.toNat_natCast]
  rw[ih]
  constructor
  ·rintro⟨h1,h2⟩ j hj
   cases j with
   |zero=>simpa using h1
   |succ j=>simpa using h2 j (by simpa using hj)
  ·intro h1
   exact⟨by simpa using h1 0 (by simp),fun j hj=>by simpa using h1 (j+1) (by simpa using hj)⟩
theorem zh8(q x l:List Nat):zs5 q x (toI l)=true↔Lay q x l:=by
 unfold zs5
 simp only[Bool.and_eq_true,beq_iff_eq,List.length_map]
 constructor
 ·rintro⟨h1,h2,h3⟩
  refine X02 ((VR x.length l 0).mp h2) fun a b _=>?_
  exact⟨h1,a,b,(Ub x q l h1).mp h3⟩
 ·intro h
  exact⟨h.len,(VR x.length l 0).mpr ⟨h.ris,h.inn,fun _=>Nat.zero_le _⟩,(Ub x q l h.len).mpr h.met⟩
noncomputable def zk1(x:List Nat)(p:Nat):Int:=if p=0 then 8 else if x.getD (p-1) 0∈MK then 6 else if (65≤x.getD p 0∧x.getD p 0≤90)∧((97≤x.getD (p-1) 0∧x.getD (p-1) 0≤122)∨(48≤x.getD (p-1) 0∧x.getD (p-1) 0≤57)) then 5 else 0
noncomputable def jt(a:Nat)(x:List Nat)(p:Nat):Int:=10+zk1 x p+(if x.getD p 0=a then 1 else 0)
noncomputable def Vq(p:Nat):Int:=-(if (p:Int)<3 then (p:Int) else 3)
noncomputable def uM(r p:Nat):Int:=if (p:Int)-r-1=0 then 7 else -(if (p:Int)-r-1<5 then (p:Int)-r-1 else 5)
noncomputable def trm(q x l:List Nat)(j:Nat):Int:=jt (q.getD j 0) x (l.getD j 0)+(if j=0 then Vq (l.getD 0 0) else uM (l.getD (j-1) 0) (l.getD j 0))
noncomputable def pts(q x l:List Nat):Nat→Int
 |0=>0
 |n+1=>pts q x l n+trm q x l n
noncomputable abbrev Tl:=Int×List Nat
noncomputable def vk:List Tl→Option Tl→Option Tl
 |[],c=>c
 |t::r,none=>vk r (some t)
 |t::r,some c=>vk r (some (if c.1<t.1 then t else c))
noncomputable def Zb(a:Nat)(x:List Nat):List Tl:=((List.range x.length).filter fun p=>xF a (x.getD p 0)).map fun p=>(jt a x p,[p])
noncomputable def vj(p:Nat)(ts:List Tl):List Tl:=(ts.filter fun t=>decide (p<t.2.getD 0 0)).map fun t=>(t.1+uM p (t.2.getD 0 0),t.2)
noncomputable def jE(a:Nat)(x:List Nat)(ts:List Tl)(p:Nat):Option Tl:=if xF a (x.getD p 0)=true then (vk (vj p ts) none).map fun t=>(jt a x p+t.1,p::t.2) else none
noncomputable def Z4(a:Nat)(x:List Nat)(ts:List Tl):List Tl:=(List.range x.length).filterMap (jE a x ts)
noncomputable def z9:List Nat→List Nat→List Tl
 |[],_=>[]
 |[a],x=>Zb a x
 |a::b::q,x=>Z4 a x (z9 (b::q) x)
noncomputable def YU(t:Tl):Tl:=(t.1+Vq (t.2.getD 0 0),t.2)
noncomputable def Ze(q x:List Nat):Option Tl:=vk ((z9 q x).map YU) none
theorem vp:∀(ts:List Tl) (c:Option Tl) (t:Tl),vk ts c=some t→t∈ts∨c=some t
 |[],c,t,h=>.inr h
 |u::r,none,t,h=>by
  rcases vp r (some u) t h with h|h
  ·exact .inl (List.mem_cons_of_mem _ h)
  ·replace h:=sI_ h;subst h;exact .inl (List.mem_cons_self ..)
 |u::r,some c,t,h=>by
  rcases vp r _ t h with h|h
  ·exact .inl (List.mem_cons_of_mem _ h)
  ·by_cases g:c.1<u.1
   ·rw[if_pos g] at h;replace h:=sI_ h;subst h;exact .inl (List.mem_cons_self ..)
   ·rw[if_neg g] at h;exact .inr h
theorem Wh:∀(ts:List Tl) (c:Tl),∃t,vk ts (some c)=some t:=by
 intro l_
 induction l_ with
 |nil=>
  rintro c
  exact⟨c,rfl⟩
 |cons u r ih_=>
  rintro c
  exact ih_ _
theorem Js(ts:List Tl)(h:ts≠[]):∃t,vk ts none=some t∧t∈ts:=by
 cases ts with
 |nil=>exact absurd rfl h
 |cons u r=>
  obtain⟨t,e⟩:=Wh r u
  refine Y11 t e ?_
  rcases vp (u::r) none t e with g|g
  ·exact g
  ·nomatch g
noncomputable def sm(f:Nat→Int):Nat→Int
 |0=>0
 |n+1=>sm f n+f n
theorem VJ(f:Nat→Int):∀n,sm f (n+1)=f 0+sm (fun j=>f (j+1)) n:=by
 intro l_
 induction l_ with
 |zero=>
  simp[sm]
 |succ n ih_=>
  rw[sm,ih_,sm];lia
theorem TB(q x l:List Nat):∀n,pts q x l n=sm (trm q x l) n:=by
 intro l_
 induction l_ with
 |zero=>
  exact rfl
 |succ n ih_=>
  rw[pts,sm,ih_]
noncomputable def trk(x:List Nat)(r:Nat)(q l:List Nat)(j:Nat):Int:=jt (q.getD j 0) x (l.getD j 0)+uM (if j=0 then r else l.getD (j-1) 0) (l.getD j 0)
theorem Ta(a p:Nat)(q x l:List Nat)(j:Nat):trm (a::q) x (p::l) (j+1)=trk x p q l j:=by
 simp only[trm,trk,List.getD_cons_succ,Nat.succ_ne_zero,if_false,Nat.add_sub_cancel]
 cases j with
 |zero=>rw[if_pos rfl,List.getD_cons_zero]
 |succ j=>rw[if_neg (Nat.succ_ne_zero j),List.getD_cons_succ,Nat.add_sub_cancel]
theorem Tb(a p r:Nat)(q x l:List Nat)(j:Nat):trk x r (a::q) (p::l) (j+1)=trk x p q l j:=by
 simp only[trk,List.getD_cons_succ,Nat.succ_ne_zero,if_false,Nat.add_sub_cancel]
 cases j with
 |zero=>rw[if_pos rfl,List.getD_cons_zero]
 |succ j=>rw[if_neg (Nat.succ_ne_zero j),List.getD_cons_succ,Nat.add_sub_cancel]
noncomputable def vJ(x:List Nat):List Nat→List Nat→Int
 |a::q,p::l=>jt a x p+sm (trk x p q l) l.length
 |_,_=>0
theorem UD(a p:Nat)(q x l:List Nat):vJ x (a::q) (p::l)+Vq p=pts (a::q) x (p::l) (l.length+1):=by
 rw[TB,VJ,funext (Ta a p q x l)]
 simp only[vJ,trm,if_true,List.getD_cons_zero]
 lia
theorem W1(a b p r:Nat)(q x l:List Nat):vJ x (a::b::q) (p::r::l)=jt a x p+uM p r+vJ x (b::q) (r::l):=by
 simp only[vJ,List.length_cons]
 rw[VJ,funext (Tb b r p q x l)]
 simp only[trk,if_true,List.getD_cons_zero]
 lia
theorem Lay.one{a p:Nat}{x:List Nat}(h1:p<x.length)(h2:xF a (x.getD p 0)=true):Lay [a] x [p]:=by
 have z:∀j,j<[p].length→j=0:=fun j hj=>by simpa using hj
 exact⟨rfl,fun j hj=>by simp at hj,fun j hj=>by rw[z j hj];exact h1,fun j hj=>by rw[z j hj];exact h2⟩
theorem Lay.cons{a p:Nat}{q x l:List Nat}(h:Lay q x l)(h1:p<x.length)(h2:xF a (x.getD p 0)=true)(h3:0<l.length→p<l.getD 0 0):Lay (a::q) x (p::l):=by
 refine⟨by simp[h.len],fun j hj=>?_,fun j hj=>?_,fun j hj=>?_⟩
 ·cases j with
  |zero=>simpa using h3 (by simpa using hj)
  |succ j=>simpa using h.ris j (by simpa using hj)
 ·cases j with
  |zero=>simpa using h1
  |succ j=>simpa using h.inn j (by simpa using hj)
 ·cases j with
  |zero=>exact h2
  |succ j=>simpa using h.met j (by simpa using hj)
theorem Lay.tail{a p:Nat}{q x l:List Nat}(h:Lay (a::q) x (p::l)):Lay q x l∧p<x.length∧xF a (x.getD p 0)=true∧(0<l.length→p<l.getD 0 0):=by
 refine⟨⟨by simpa using h.len,fun j hj=>?_,fun j hj=>?_,fun j hj=>?_⟩,by simpa using h.inn 0 (by simp),by simpa using h.met 0 (by simp),fun h0=>by simpa using h.ris 0 (by simpa using h0)⟩
 ·simpa using h.ris (j+1) (by simpa using hj)
 ·simpa using h.inn (j+1) (by simpa using hj)
 ·simpa using h.met (j+1) (by simpa using hj)
theorem ud(x:List Nat):∀(q:List Nat) (t:Tl),t∈z9 q x→Lay q x t.2∧t.1=vJ x q t.2
 |[],t,h=>by simp[z9] at h
 |[a],t,h=>by
  simp only[z9,Zb,List.mem_map,List.mem_filter,List.mem_range] at h
  obtain⟨p,⟨h1,h2⟩,rfl⟩:=h
  exact⟨Lay.one h1 h2,by simp[vJ,sm]⟩
 |a::b::q,t,h=>by
  simp only[z9,Z4,List.mem_filterMap,List.mem_range] at h
  refine X11 h fun p h1 h2=>?_
  unfold jE at h2
  split at h2
  ·rename_i hm
   cases e:vk (vj p (z9 (b::q) x)) none with
   |none=>rw[e] at h2;cases h2
   |some u=>
    rw[e] at h2
    have h2:some (jt a x p+u.1,p::u.2)=some t:=h2
    replace h2:=sI_ h2;subst h2
    rcases vp _ _ _ e with g|g
    ·simp only[vj,List.mem_map,List.mem_filter,decide_eq_true_eq] at g
     obtain⟨v,⟨g1,g2⟩,rfl⟩:=g
     obtain⟨k1,k2⟩:=ud x (b::q) v g1
     refine⟨k1.cons h1 hm fun _=>g2,?_⟩
     have hl:=k1.len
     cases e2:v.2 with
     |nil=>rw[e2] at hl;simp at hl
     |cons r l=>
      rw[e2] at k2
      simp only[List.getD_cons_zero]
      rw[W1,k2]
      lia
    ·nomatch g
  ·nomatch h2
theorem jQ(x:List Nat):∀(q l:List Nat),q≠[]→Lay q x l→∃t∈z9 q x,t.2.getD 0 0=l.getD 0 0
 |[],_,h,_=>absurd rfl h
 |[a],l,_,h=>by
  cases l with
  |nil=>have:=h.len;simp at this
  |cons p l=>
   refine X03 h.tail fun _ h1 h2 _=>?_
   refine Y11 ((jt a x p,[p])) ?_ rfl
   simp only[z9,Zb,List.mem_map,List.mem_filter,List.mem_range]
   exact Y11 p ⟨h1,h2⟩ rfl
 |a::b::q,l,_,h=>by
  cases l with
  |nil=>have:=h.len;simp at this
  |cons p l=>
   refine X03 h.tail fun h0 h1 h2 h3=>?_
   refine X11 (jQ x (b::q) l (by simp) h0) fun u u1 u2=>?_
   have hl:0<l.length:=by rw[h0.len];simp
   have mem:(u.1+uM p (u.2.getD 0 0),u.2)∈vj p (z9 (b::q) x):=by
    simp only[vj,List.mem_map,List.mem_filter,decide_eq_true_eq]
    exact Y11 u ⟨u1,by rw[u2];exact h3 hl⟩ rfl
   refine X11 (Js _ (List.ne_nil_of_mem mem)) fun t e _=>?_
   refine Y11 ((jt a x p+t.1,p::t.2)) ?_ rfl
   simp only[z9,Z4,List.mem_filterMap,List.mem_range]
   refine Y11 p h1 ?_
   unfold jE
   rw[if_pos h2,e]
   rfl
theorem Zz(q x:List Nat)(hq:q≠[])(v:Int)(l:List Nat)(h:Ze q x=some (v,l)):Lay q x l∧v=pts q x l q.length:=by
 unfold Ze at h
 rcases vp _ _ _ h with g|g
 ·refine X11 (List.mem_map.mp g) fun t g1 g2=>?_
  obtain⟨k1,k2⟩:=ud x q t g1
  simp only[YU,Prod.mk.injEq] at g2
  obtain⟨rfl,rfl⟩:=g2
  refine⟨k1,?_⟩
  cases q with
  |nil=>exact absurd rfl hq
  |cons a q=>
   have hl:=k1.len
   cases e2:t.2 with
   |nil=>rw[e2] at hl;simp at hl
   |cons p l=>
    rw[e2] at k2 hl
    simp only[List.length_cons] at hl ⊢
    have:q.length=l.length:=by lia
    rw[this,← UD,k2,List.getD_cons_zero]
 ·nomatch g
theorem M0(q x l:List Nat)(hq:q≠[])(h:Lay q x l):∃v l',Ze q x=some (v,l')∧Lay q x l'∧v=pts q x l' q.length:=by
 refine X11 (jQ x q l hq h) fun t t1 _=>?_
 obtain⟨⟨v,l'⟩,e,_⟩:=Js ((z9 q x).map YU) (List.ne_nil_of_mem (List.mem_map_of_mem t1))
 exact Y21 v l' e (Zz q x hq v l' e)
theorem MF(q x:List Nat)(h:xa q x=true):Lay q x (epR q x 0):=by
 have h1:=(Yc q x 0).mpr h
 have h2:=Qs x.length q x 0 0 (Int.le_refl _) (by lia)
 have h3:=L4 x id q x 0 rfl fun a _ c _ hm=>hm
 rw[List.map_id] at h3
 refine(zh8 q x _).mp ?_
 unfold zs5
 rw[h2,h3]
 simp[h1]
theorem j3(l:List Nat)(j:Nat)(h:j<l.length):(l.map (· - 1)).getD j 0=l.getD j 0-1:=by
 simp[List.getD_eq_getElem?_getD,List.getElem?_map,List.getElem?_eq_getElem h]
theorem Lay.back{q x l:List Nat}{c:Nat}(h:Lay q (c::x) l)(h0:∀j,j<l.length→0<l.getD j 0):Lay q x (l.map (· - 1)):=by
 refine⟨by simp[h.len],fun j hj=>?_,fun j hj=>?_,fun j hj=>?_⟩ <;> rw[List.length_map] at hj
 ·rw[j3 _ _ (by lia),j3 _ _ hj]
  have:=h.ris j hj;have:=h0 j (by lia);lia
 ·rw[j3 _ _ hj]
  have:=h.inn j hj;have:=h0 j hj;simp only[List.length_cons] at *;lia
 ·rw[j3 _ _ hj]
  have a:=h.met j hj;have b:=h0 j hj
  obtain⟨k,hk⟩:∃k,l.getD j 0=k+1:=⟨l.getD j 0-1,by lia⟩
  rw[hk,List.getD_cons_succ] at a
  rw[hk];exact a
theorem Lay.low{q x l:List Nat}(h:Lay q x l)(h0:0<l.getD 0 0):∀j,j<l.length→0<l.getD j 0:=fun j=>by
 induction j with
 |zero=>exact fun _=>h0
 |succ j ih=>intro hj;have:=h.ris j hj;lia
theorem X7:∀(x q l:List Nat),Lay q x l→xa q x=true:=by
 intro l_
 induction l_ with
 |nil=>
  rintro q l h
  cases q with
  |nil=>rfl
  |cons a q=>
   have:=h.inn 0 (by rw[h.len];simp)
   simp at this
 |cons c x ih_=>
  rintro q l h
  cases q with
  |nil=>rfl
  |cons a q=>
   cases l with
   |nil=>have:=h.len;simp at this
   |cons p l=>
    simp only[xa]
    split
    ·refine X03 h.tail fun h1 _ _ h3=>?_
     refine ih_ q (l.map (· - 1)) (h1.back fun j hj=>?_)
     have h4:=h3 (by lia)
     exact h1.low (by lia) j hj
    ·rename_i hm
     refine ih_ (a::q) ((p::l).map (· - 1)) (h.back (h.low ?_))
     rcases Nat.eq_zero_or_pos p with z|z
     ·subst z
      have:=h.met 0 (by simp)
      simp only[List.getD_cons_zero] at this
      exact absurd this hm
     ·simpa using z
end Law
set_option Elab.async false
set_option linter.all false
set_option maxHeartbeats 1000000
namespace FD
open PySem PySem.Spec PyProof.Rows L2
noncomputable def negI:D→Rs D
 |.int i=>.ok (.int (-i))
 |_=>.no
@[simp] theorem Ln{i:Int}:negI (.int i)=.ok (.int (-i)):=rfl
theorem Xr{fa:FE}{τ:DS}:xZ fa τ=(fa τ).bind negI:=by
 unfold xZ
 show(fa τ).bind _=_
 cases fa τ with
 |ok d=>cases d <;> rfl
 |_=>rfl
theorem Ls(i j:Int):Z2 [.int i,.int j]=.ok (.int (if j<i then j else i)):=rfl
end FD
namespace Law
open PySem PySem.Spec PyProof.Rows L2 FD
noncomputable abbrev tlD(t:Tl):D:=.tup [.int t.1,nts t.2]
noncomputable def j6:Option Tl→D
 |none=>.non
 |some t=>tlD t
theorem G2(t:Tl):ixD (tlD t) (.int 0)=.ok (.int t.1):=rfl
theorem G1(t:Tl):ixD (tlD t) (.int 1)=.ok (nts t.2):=rfl
theorem zr2(l:List Nat)(j:Nat)(h:j<l.length):ixD (nts l) (.int (j:Int))=.ok (.int (l.getD j 0:Nat)):=by
 refine Gw (Wr (by lia) ?_)
 simp[List.getD_eq_getElem?_getD,List.getElem?_eq_getElem h]
theorem Ua(l:List Nat)(h:0<l.length):ixD (nts l) (.int 0)=.ok (.int (l.getD 0 0:Nat)):=zr2 l 0 h
theorem Gj(l:List Nat):yr [nts l]=.ok (.int l.length):=by rw[v5,List.length_map]
theorem Z8(x:List Nat)(j:Nat)(h:j<x.length):x[j]?=some (x.getD j 0):=by
 rw[List.getD_eq_getElem?_getD,List.getElem?_eq_getElem h];rfl
theorem WV(x:List Nat)(j:Nat)(h:j<x.length)(hx:x.length≤1000):ixD (tx x) (.int (j:Int))=.ok (zH (x.getD j 0)):=M7 x j _ (Z8 x j h) hx
theorem zi8:("ABCDEFGHIJKLMNOPQRSTUVWXYZ" : Str).cps.toList=(List.range 26).map (· + 65):=by decide +kernel
theorem zu3:("0123456789" : Str).cps.toList=(List.range 10).map (· + 48):=by decide +kernel
theorem QW(c n a:Nat):decide (c∈(List.range (n+1)).map (· + a))=decide (a≤c∧c≤n+a):=by
 apply decide_eq_decide.mpr
 rw[List.mem_map]
 constructor
 ·rintro⟨i,hi,rfl⟩
  have:=List.mem_range.mp hi
  lia
 ·intro h
  exact Y11 (c-a) (List.mem_range.mpr (by lia)) (by lia)
theorem uO(c:Nat):decide (c∈("ABCDEFGHIJKLMNOPQRSTUVWXYZ" : Str).cps.toList)=decide (65≤c∧c≤90):=by
 rw[zi8];exact QW c 25 65
theorem Ya(c:Nat):decide (c∈("0123456789" : Str).cps.toList)=decide (48≤c∧c≤57):=by
 rw[zu3];exact QW c 9 48
theorem zu9(x:List Nat)(p:Nat)(hx:x.length≤1000)(hp:p<x.length):yN [tx x,.int (p:Int)]=.ok (.int (zk1 x p)):=by
 have st:z0 3 [tx x,.int (p:Int)]=[some (.val (tx x)),some (.val (.int (p:Int))),none]:=rfl
 unfold yN ua
 rw[yx,st]
 cases p with
 |zero=>
  simp only[zU,yK,ye,ya,wg,yn,zM,yM,List.getElem?_cons_zero,List.getElem?_cons_succ,zE,Rs.bind_ok,Fl.of_ok,Yr,zZ,z8,uR,if_true,show((((0:Nat):Int))==0)=true from rfl]
  rfl
 |succ k=>
  have e0:(((k+1:Nat):Int)==0)=false:=by simp;lia
  have e1:((k+1:Nat):Int)-1=(k:Int):=by lia
  have hk:=WV x k (by lia) hx
  have hk1:=WV x (k+1) hp hx
  have hb:zk1 x (k+1)=if x.getD k 0∈MK then 6 else if (65≤x.getD (k+1) 0∧x.getD (k+1) 0≤90)∧((97≤x.getD k 0∧x.getD k 0≤122)∨(48≤x.getD k 0∧x.getD k 0≤57)) then 5 else 0:=by
   unfold zk1;rw[if_neg (Nat.succ_ne_zero k)];rfl
  rw[hb]
  generalize x.getD k 0=c at *
  generalize x.getD (k+1) 0=d at *
  simp only[zH] at hk hk1
  by_cases h1:c∈MK
  ·simp only[zU,yj,yK,ye,ya,wg,yn,zM,yM,List.getElem?_cons_zero,List.getElem?_cons_succ,List.set_cons_succ,List.set_cons_zero,zE,Rs.bind_ok,Fl.of_ok,yw,Yr,zZ,z8,vF,uR,if_true,Bool.false_eq_true,if_false,e0,e1,hk,YY,wU,My,h1,decide_true]
  ·by_cases h2:65≤d∧d≤90
   ·by_cases h3:97≤c∧c≤122
    ·have h4:(65≤d∧d≤90)∧((97≤c∧c≤122)∨(48≤c∧c≤57)):=⟨h2,.inl h3⟩
     rw[if_neg h1,if_pos h4]
     simp only[zU,yj,yK,ye,ya,wg,uf,ju,yn,zM,yM,List.getElem?_cons_zero,List.getElem?_cons_succ,List.set_cons_succ,List.set_cons_zero,zE,Rs.bind_ok,Fl.of_ok,yw,Yr,zZ,z8,vF,uR,if_true,Bool.false_eq_true,if_false,e0,e1,hk,hk1,YY,wU,My,h1,decide_false,uO,uF,Ya,h2,h3,and_self,decide_true]
    ·by_cases h5:48≤c∧c≤57
     ·have h4:(65≤d∧d≤90)∧((97≤c∧c≤122)∨(48≤c∧c≤57)):=⟨h2,.inr h5⟩
      rw[if_neg h1,if_pos h4]
      simp only[zU,yj,yK,ye,ya,wg,uf,ju,yn,zM,yM,List.getElem?_cons_zero,List.getElem?_cons_succ,List.set_cons_succ,List.set_cons_zero,zE,Rs.bind_ok,Fl.of_ok,yw,Yr,zZ,z8,vF,uR,if_true,Bool.false_eq_true,if_false,e0,e1,hk,hk1,YY,wU,My,h1,decide_false,uO,uF,Ya,decide_eq_true h2,decide_eq_false h3,decide_eq_true h5]
     ·have h4:¬ ((65≤d∧d≤90)∧((97≤c∧c≤122)∨(48≤c∧c≤57))):=fun h=>by rcases h.2 with h|h;exact h3 h;exact h5 h
      rw[if_neg h1,if_neg h4]
      simp only[zU,yj,yK,ye,ya,wg,uf,ju,yn,zM,yM,List.getElem?_cons_zero,List.getElem?_cons_succ,List.set_cons_succ,List.set_cons_zero,zE,Rs.bind_ok,Fl.of_ok,yw,zZ,z8,vF,uR,if_true,Bool.false_eq_true,if_false,e0,e1,hk,hk1,YY,wU,My,h1,decide_false,uO,uF,Ya,decide_eq_true h2,decide_eq_false h3,decide_eq_false h5]
   ·have h4:¬ ((65≤d∧d≤90)∧((97≤c∧c≤122)∨(48≤c∧c≤57))):=fun h=>h2 h.1
    rw[if_neg h1,if_neg h4]
    simp only[zU,yj,yK,ye,ya,wg,uf,ju,yn,zM,yM,List.getElem?_cons_zero,List.getElem?_cons_succ,List.set_cons_succ,List.set_cons_zero,zE,Rs.bind_ok,Fl.of_ok,yw,zZ,z8,vF,uR,Bool.false_eq_true,if_false,e0,e1,hk,hk1,YY,wU,My,h1,decide_false,uO,decide_eq_false h2]
theorem T5(a:Nat)(x:List Nat)(p:Nat)(hx:x.length≤1000)(hp:p<x.length):yH [zH a,tx x,.int (p:Int)]=.ok (.int (jt a x p)):=by
 have st:z0 4 [zH a,tx x,.int (p:Int)]=[some (.val (zH a)),some (.val (tx x)),some (.val (.int (p:Int))),none]:=rfl
 have hk:=WV x p hp hx
 have hb:=zu9 x p hx hp
 unfold yH Yj jt
 rw[yx,st]
 simp only[zH] at hk ⊢
 by_cases h:x.getD p 0=a
 ·have h':(x.getD p 0==a)=true:=by simpa using h
  rw[if_pos h]
  simp only[zU,yj,ye,wg,yn,zM,yM,zS,zA,yI,L6,List.getElem?_cons_zero,List.getElem?_cons_succ,List.set_cons_succ,List.set_cons_zero,zE,Rs.bind_ok,Fl.of_ok,yw,zZ,xQ,z8,xW,L0,if_true,hk,Qa,h',hb]
 ·have h':(x.getD p 0==a)=false:=by simpa using h
  rw[if_neg h]
  simp only[zU,yj,ye,wg,yn,zM,yM,zS,zA,yI,L6,List.getElem?_cons_zero,List.getElem?_cons_succ,List.set_cons_succ,List.set_cons_zero,zE,Rs.bind_ok,Fl.of_ok,yw,zZ,xQ,z8,xW,L0,Bool.false_eq_true,if_false,hk,Qa,h',hb]
theorem zh6(p:Nat):xg [.int (p:Int)]=.ok (.int (Vq p)):=by
 have st:z0 1 [.int (p:Int)]=[some (.val (.int (p:Int)))]:=rfl
 unfold xg Zg Vq
 rw[yx,st]
 simp only[ye,zM,yM,zS,zA,vf,List.getElem?_cons_zero,zE,Rs.bind_ok,Fl.of_ok,zZ,Ls,Xr,Ln]
 congr 3
 split <;> split <;> lia
theorem zh2(r p:Nat):xA [.int (r:Int),.int (p:Int)]=.ok (.int (uM r p)):=by
 have st:z0 3 [.int (r:Int),.int (p:Int)]=[some (.val (.int (r:Int))),some (.val (.int (p:Int))),none]:=rfl
 unfold xA Zf uM
 rw[yx,st]
 by_cases h:(p:Int)-r-1=0
 ·have h':((p:Int)-r-1==0)=true:=by simpa using h
  rw[if_pos h]
  simp only[zU,yj,yK,ye,ya,wg,yn,zM,yM,List.getElem?_cons_zero,List.getElem?_cons_succ,List.set_cons_succ,List.set_cons_zero,zE,Rs.bind_ok,Fl.of_ok,yw,Yr,zZ,z8,vF,uR,if_true,h']
 ·have h':((p:Int)-r-1==0)=false:=by simpa using h
  rw[if_neg h]
  simp only[zU,yj,yK,ye,ya,wg,yn,zM,yM,zS,zA,vf,List.getElem?_cons_zero,List.getElem?_cons_succ,List.set_cons_succ,List.set_cons_zero,zE,Rs.bind_ok,Fl.of_ok,yw,zZ,z8,vF,uR,Bool.false_eq_true,if_false,h',Ls,Xr,Ln]
  congr 3
  split <;> split <;> lia
end Law
set_option Elab.async false
set_option linter.all false
set_option maxHeartbeats 1000000
namespace FD
open PySem PySem.Spec PyProof.Rows L2
theorem zn9{fs:FA}{τ:DS}{i j:Int}(h:fs τ=.ok [.int i,.int j,.int (-1)])(h1 : -(2 ^ 62)≤i)(h2:i<2 ^ 62)(h3 : -(2 ^ 62)≤j)(h4:j<2 ^ 62):ML fs τ=.ok (YO i (i-j).toNat):=by
 unfold ML
 rw[h]
 simp only[Rs.bind_ok,Jm]
 rw[if_pos ⟨⟨h1,h2⟩,h3,h4⟩]
end FD
namespace Law
open PySem PySem.Spec PyProof.Rows L2 FD
noncomputable def YL:FS:=(sIf (Ys (FD.tB (eOp isD (ze 1) (eC .non))) (FD.tB (eOp gtD (eOp ixD (ze 2) (eC (.int 0))) (eOp ixD (ze 1) (eC (.int 0)))))) (yQ 1 (ze 2)) yf)
theorem zt6:isD .non .non=.ok (.bl true):=rfl
theorem zm1(t:Tl):isD (tlD t) .non=.ok (.bl false):=rfl
theorem Vt:jb .non .non=.ok (.bl false):=rfl
theorem Jk(t:Tl):jb (tlD t) .non=.ok (.bl true):=rfl
theorem Uk(z:D):∀(ts:List Tl) (c:Option Tl) (s:Option Sl),∃s',yO (gNm 2) YL (ts.map tlD) [some (.val z),some (.val (j6 c)),s]=.nx [some (.val z),some (.val (j6 (vk ts c))),s']
 |[],c,s=>⟨s,rfl⟩
 |t::ts,none,s=>by
  obtain⟨s',ih⟩:=Uk z ts (some t) (some (.val (tlD t)))
  refine⟨s',?_⟩
  have:YL [some (.val z),some (.val (j6 none)),some (.val (tlD t))]=.nx [some (.val z),some (.val (j6 (some t))),some (.val (tlD t))]:=by
   unfold YL j6
   simp only[yj,yK,ya,wg,ju,yn,zM,yM,List.getElem?_cons_zero,List.getElem?_cons_succ,List.set_cons_succ,List.set_cons_zero,zE,Rs.bind_ok,Fl.of_ok,z8,if_true,zt6]
  rw[List.map_cons,yO,Zx,Fl.of_ok]
  simp only[List.set_cons_succ,List.set_cons_zero,this]
  rw[ih]
  rfl
 |t::ts,some c,s=>by
  obtain⟨s',ih⟩:=Uk z ts (some (if c.1<t.1 then t else c)) (some (.val (tlD t)))
  refine⟨s',?_⟩
  have:YL [some (.val z),some (.val (j6 (some c))),some (.val (tlD t))]=.nx [some (.val z),some (.val (j6 (some (if c.1<t.1 then t else c)))),some (.val (tlD t))]:=by
   unfold YL j6
   by_cases h:c.1<t.1
   ·rw[if_pos h]
    simp only[yj,yK,ya,wg,ju,yn,zM,yM,List.getElem?_cons_zero,List.getElem?_cons_succ,List.set_cons_succ,List.set_cons_zero,zE,Rs.bind_ok,Fl.of_ok,z8,GD,if_true,Bool.false_eq_true,if_false,zm1,G2,h,decide_true]
   ·rw[if_neg h]
    simp only[yj,yK,ya,wg,ju,yn,zM,yM,List.getElem?_cons_zero,List.getElem?_cons_succ,List.set_cons_succ,List.set_cons_zero,zE,Rs.bind_ok,Fl.of_ok,z8,GD,Bool.false_eq_true,if_false,zm1,G2,h,decide_false]
  rw[List.map_cons,yO,Zx,Fl.of_ok]
  simp only[List.set_cons_succ,List.set_cons_zero,this]
  rw[ih]
  rfl
theorem zm7(ts:List Tl):zW [.lst (ts.map tlD)]=.ok (j6 (vk ts none)):=by
 have st:z0 3 [.lst (ts.map tlD)]=[some (.val (.lst (ts.map tlD))),none,none]:=rfl
 obtain⟨s',h⟩:=Uk (.lst (ts.map tlD)) ts none none
 unfold YL at h
 unfold zW jn
 rw[yx,st]
 simp only[j6] at h
 simp only[zU,yj,ye,wZ,Z6,LL,zM,yM,List.getElem?_cons_zero,List.getElem?_cons_succ,List.set_cons_succ,List.set_cons_zero,zE,Rs.bind_ok,Fl.of_ok,yw,zZ,h]
 rfl
theorem size2:∀a b:D,([a,b]:List D).length≤sizeLine:=fun a b=>by rw[zK];exact Nat.le_of_ble_eq_true rfl
theorem size1:∀a:D,([a]:List D).length≤sizeLine:=fun a=>by rw[zK];exact Nat.le_of_ble_eq_true rfl
theorem G0{fa fb:FE}{τ:DS}{a b:D}(h1:fa τ=.ok a)(h2:fb τ=.ok b):v7 (za fa (za fb zi)) τ=.ok (.tup [a,b]):=by
 rw[GJ,zA,h1,Rs.bind_ok,zA,h2,Rs.bind_ok,zS,Rs.bind_ok,Rs.bind_ok,Rs.bind_ok]
 exact if_pos (size2 a b)
theorem Lw{fa:FE}{τ:DS}{a:D}(h1:fa τ=.ok a):jf (za fa zi) τ=.ok (.lst [a]):=by
 rw[Uq,zA,h1,Rs.bind_ok,zS,Rs.bind_ok,Rs.bind_ok]
 exact if_pos (size1 a)
theorem za2{f:List D→Rs D}{fa:FE}{τ:DS}{a d:D}(h1:fa τ=.ok a)(h:f [a]=.ok d):zv f (za fa zi) τ=.ok d:=by
 rw[yI,zA,h1,Rs.bind_ok,zS,Rs.bind_ok,Rs.bind_ok,h];rfl
theorem Zd{f:List D→Rs D}{fa fb:FE}{τ:DS}{a b d:D}(h1:fa τ=.ok a)(h2:fb τ=.ok b)(h:f [a,b]=.ok d):zv f (za fa (za fb zi)) τ=.ok d:=by
 rw[yI,zA,h1,Rs.bind_ok,zA,h2,Rs.bind_ok,zS,Rs.bind_ok,Rs.bind_ok,Rs.bind_ok,h];rfl
theorem ur{f:List D→Rs D}{fa fb fc:FE}{τ:DS}{a b c d:D}(h1:fa τ=.ok a)(h2:fb τ=.ok b)(h3:fc τ=.ok c)(h:f [a,b,c]=.ok d):zv f (za fa (za fb (za fc zi))) τ=.ok d:=by
 rw[yI,zA,h1,Rs.bind_ok,zA,h2,Rs.bind_ok,zA,h3,Rs.bind_ok,zS,Rs.bind_ok,Rs.bind_ok,Rs.bind_ok,Rs.bind_ok,h];rfl
theorem op2{op:D→D→Rs D}{fa fb:FE}{τ:DS}{a b:D}{r:Rs D}(h1:fa τ=.ok a)(h2:fb τ=.ok b)(h:op a b=r):eOp op fa fb τ=r:=by
 rw[yn,h1,Rs.bind_ok,h2,Rs.bind_ok,h]
theorem zo{n:Nat}{τ:DS}{d:D}(h:τ[n]?=some (some (.val d))):ze n τ=.ok d:=by rw[zM,h];rfl
theorem vS{k:Nat}{idx:List Nat}{fi:FA}{set:FG}{ft:FT}{fe:FE}{τ:DS}{ds xs:List D}(h1:fi τ=.ok ds)(h2:vE set ft fe (vx k idx τ) ds=.ok xs)(h3:xs.length≤1000):xK k idx fi set ft fe τ=.ok xs:=by
 unfold xK
 rw[h1,Rs.bind_ok,h2]
 exact if_pos (by rw[zK];lia)
theorem tru_ok{fe:FE}{τ:DS}{b:Bool}(h:fe τ=.ok (.bl b)):wB fe τ=.ok b:=by rw[ue,h];rfl
theorem vy{fe:FE}{τ:DS}{b:Bool}(h:fe τ=.ok (.bl b)):FD.tB fe τ=.ok b:=by rw[wg,h];rfl
theorem Zo{fa:FE}{τ:DS}{n:Nat}(h:fa τ=.ok (.int (n:Int)))(hn:n≤1000):vi (za fa zi) τ=.ok ((List.range n).map fun (k:Nat)=>D.int (0+k)):=by
 rw[VT (j:=(n:Int)) (by rw[zA,h,Rs.bind_ok,zS,Rs.bind_ok]) (by lia) (by lia),Int.toNat_natCast];rfl
theorem uC{g:List D→Rs D}{fa:FE}{τ:DS}{a d:D}(h1:fa τ=.ok a)(h:g [a]=.ok d):yd g (za fa zi) τ=.ok d:=by
 rw[vf,zA,h1,Rs.bind_ok,zS,Rs.bind_ok,Rs.bind_ok,h]
theorem WN(a:Nat)(x:List Nat)(ha:a<128)(hx:x.length≤1000):yv [zH a,tx x]=.ok (.lst ((Zb a x).map tlD)):=by
 have st:z0 2 [zH a,tx x]=[some (.val (zH a)),some (.val (tx x))]:=rfl
 have cf:=wA (set:=gNm 0) (ft:=(wB (zv wc (za (ze 1) (za (eOp ixD (ze 2) (ze 0)) zi))))) (fe:=(v7 (za (zv yH (za (ze 1) (za (ze 2) (za (ze 0) zi)))) (za (jf (za (ze 0) zi)) zi)))) (τ:=[none,some (.val (zH a)),some (.val (tx x))])
  (fun (k:Nat)=>D.int (0+k)) (fun (p:Nat)=>tlD (jt a x p,[p])) (fun p=>xF a (x.getD p 0)) (List.range x.length) fun p hp=>by
   have hp:=List.mem_range.mp hp
   refine Y12 ([some (.val (.int (p:Int))),some (.val (zH a)),some (.val (tx x))]) (by rw[Int.zero_add];rfl) ?_ ?_
   ·exact tru_ok (Zd (zo rfl) (op2 (zo rfl) (zo rfl) (WV x p hp hx)) (X2 a _ ha))
   ·exact G0 (ur (zo rfl) (zo rfl) (zo rfl) (T5 a x p hx hp)) (Lw (zo rfl))
 have hlen:(((List.range x.length).filter fun p=>xF a (x.getD p 0)).map fun (p:Nat)=>tlD (jt a x p,[p])).length≤1000:=by
  rw[List.length_map]
  have:=List.length_filter_le (fun p=>xF a (x.getD p 0)) (List.range x.length)
  rw[List.length_range] at this;lia
 have ec:=vS (k:=1) (idx:=[0,1]) (fi:=vi (za (yd yr (za (ze 1) zi)) zi)) (τ:=[some (.val (zH a)),some (.val (tx x))]) (Zo (uC (zo rfl) (wb x hx)) hx) cf hlen
 unfold yv ut
 rw[yx,st,ye]
 simp only[ec,Rs.bind_ok,Fl.of_ok,zZ]
 unfold Zb
 rw[List.map_map]
 rfl
theorem MD(p:Nat)(ts:List Tl)(hs:ts.length≤1000)(hn:∀t∈ts,0<t.2.length):yR [.int (p:Int),.lst (ts.map tlD)]=.ok (.lst ((vj p ts).map tlD)):=by
 have st:z0 2 [.int (p:Int),.lst (ts.map tlD)]=[some (.val (.int (p:Int))),some (.val (.lst (ts.map tlD)))]:=rfl
 have cf:=wA (set:=gNm 0) (ft:=(FD.tB (eOp gtD (eOp ixD (eOp ixD (ze 0) (eC (.int 1))) (eC (.int 0))) (ze 1)))) (fe:=(v7 (za (eOp zV (eOp ixD (ze 0) (eC (.int 0))) (zv xA (za (ze 1) (za (eOp ixD (eOp ixD (ze 0) (eC (.int 1))) (eC (.int 0))) zi)))) (za (eOp ixD (ze 0) (eC (.int 1))) zi)))) (τ:=[none,some (.val (.int (p:Int)))])
  tlD (fun t=>tlD (t.1+uM p (t.2.getD 0 0),t.2)) (fun t=>decide (p<t.2.getD 0 0)) ts fun t ht=>by
   refine Y12 ([some (.val (tlD t)),some (.val (.int (p:Int)))]) rfl ?_ ?_
   ·have:=Ua t.2 (hn t ht)
    refine vy (op2 (op2 (op2 (zo rfl) rfl (G1 t)) rfl this) (zo rfl) ?_)
    rw[GD]
    congr 2
    exact decide_eq_decide.mpr (by lia)
   ·have:=Ua t.2 (hn t ht)
    exact G0 (op2 (op2 (zo rfl) rfl (G2 t)) (Zd (zo rfl) (op2 (op2 (zo rfl) rfl (G1 t)) rfl this) (zh2 p _)) (xW)) (op2 (zo rfl) rfl (G1 t))
 have hlen:((ts.filter fun t=>decide (p<t.2.getD 0 0)).map fun t=>tlD (t.1+uM p (t.2.getD 0 0),t.2)).length≤1000:=by
  rw[List.length_map]
  have:=List.length_filter_le (fun t:Tl=>decide (p<t.2.getD 0 0)) ts
  lia
 have it:ve (ze 1) [some (.val (.int (p:Int))),some (.val (.lst (ts.map tlD)))]=.ok (ts.map tlD):=rfl
 have ec:=vS (k:=1) (idx:=[0]) (τ:=[some (.val (.int (p:Int))),some (.val (.lst (ts.map tlD)))]) it cf hlen
 unfold yR jM
 rw[yx,st,ye]
 simp only[ec,Rs.bind_ok,Fl.of_ok,zZ]
 unfold vj
 rw[List.map_map]
 rfl
noncomputable def YH:FS:=(sIf (wB (zv wc (za (ze 0) (za (eOp ixD (ze 1) (ze 4)) zi)))) (zI (yQ 5 (zv zW (za (zv yR (za (ze 4) (za (ze 2) zi))) zi)))
  (sIf (FD.tB (eOp jb (ze 5) (eC .non))) (WB 3 (v7 (za (eOp zV (zv yH (za (ze 0) (za (ze 1) (za (ze 4) zi)))) (eOp ixD (ze 5) (eC (.int 0)))) (za (eOp zV (jf (za (ze 4) zi)) (eOp ixD (ze 5) (eC (.int 1)))) zi)))) yf)) yf)
theorem MW(p:Nat)(l:List Nat)(h:l.length≤1000):zV (.lst [.int (p:Int)]) (nts l)=.ok (nts (p::l)):=by
 show(if _ then Rs.ok (D.lst _) else Rs.no)=_
 rw[if_pos (by rw[zK,List.length_map,List.length_singleton];lia)]
 rfl
theorem LA(p:Nat)(ts:List Tl):∀t,vk (vj p ts) none=some t→∃u∈ts,t.2=u.2:=fun t h=>by
 rcases vp _ _ _ h with g|g
 ·simp only[vj,List.mem_map,List.mem_filter] at g
  obtain⟨u,⟨g1,_⟩,rfl⟩:=g
  exact Y11 u g1 rfl
 ·nomatch g
theorem zh3(a:Nat)(x:List Nat)(ts acc:List Tl)(p:Nat)(s5:Option Sl)(ha:a<128)(hx:x.length≤1000)(hs:ts.length≤1000)(hn:∀t∈ts,0<t.2.length∧t.2.length≤1000)(hp:p<x.length)(hc:acc.length≤1000) :
  ∃s',YH [some (.val (zH a)),some (.val (tx x)),some (.val (.lst (ts.map tlD))),some (.own (acc.map tlD)),some (.val (.int (p:Int))),s5]=.nx [some (.val (zH a)),some (.val (tx x)),some (.val (.lst (ts.map tlD))),some (.own ((acc++(jE a x ts p).toList).map tlD)),some (.val (.int (p:Int))),s']:=by
 have hm:=X2 a (x.getD p 0) ha
 have hlk:=MD p ts hs fun t ht=>(hn t ht).1
 have hfm:=zm7 (vj p ts)
 have how:=T5 a x p hx hp
 have hix:=WV x p hp hx
 have hsz:(acc.map tlD).length<sizeLine:=by rw[zK,List.length_map];lia
 unfold YH jE
 generalize wc=fa at hm ⊢
 generalize yR=fb at hlk ⊢
 generalize zW=fc at hfm ⊢
 generalize yH=fd at how ⊢
 by_cases h:xF a (x.getD p 0)=true
 ·rw[if_pos h]
  rw[h] at hm
  cases e:vk (vj p ts) none with
  |none=>
   rw[e] at hfm
   refine⟨some (.val .non),?_⟩
   simp only[zU,yj,yK,ya,ug,wg,ue,yn,zM,yM,zS,zA,yI,List.getElem?_cons_zero,List.getElem?_cons_succ,List.set_cons_succ,List.set_cons_zero,zE,xq,Rs.bind_ok,Fl.of_ok,yw,xQ,z8,vN,if_true,Bool.false_eq_true,if_false,hix,hm,hlk,hfm,j6,Vt,Option.map_none,Option.toList_none,List.append_nil]
  |some t=>
   rw[e] at hfm
   refine X11 (LA p ts t e) fun u u1 u2=>?_
   have hct:=MW p t.2 (by rw[u2];exact(hn u u1).2)
   refine⟨some (.val (tlD t)),?_⟩
   have tp:v7 (za (eOp zV (zv fd (za (ze 0) (za (ze 1) (za (ze 4) zi)))) (eOp ixD (ze 5) (eC (.int 0)))) (za (eOp zV (jf (za (ze 4) zi)) (eOp ixD (ze 5) (eC (.int 1)))) zi)) [some (.val (zH a)),some (.val (tx x)),some (.val (.lst (ts.map tlD))),some (.own (acc.map tlD)),some (.val (.int (p:Int))),some (.val (tlD t))]=.ok (tlD (jt a x p+t.1,p::t.2)):=
    G0 (op2 (ur (zo rfl) (zo rfl) (zo rfl) how) (op2 (zo rfl) rfl (G2 t)) xW) (op2 (Lw (zo rfl)) (op2 (zo rfl) rfl (G1 t)) hct)
   simp only[zU,yj,yK,ya,ug,wg,ue,yn,zM,yM,zS,zA,yI,List.getElem?_cons_zero,List.getElem?_cons_succ,List.set_cons_succ,List.set_cons_zero,zE,xq,Rs.bind_ok,Fl.of_ok,yw,xQ,z8,vN,if_true,hix,hm,hlk,hfm,j6,Jk,tp,hsz,Option.map_some,Option.toList_some,List.map_append,List.map_cons,List.map_nil]
 ·have h':xF a (x.getD p 0)=false:=by simpa using h
  rw[h'] at hm
  rw[if_neg h]
  refine⟨s5,?_⟩
  simp only[zU,yj,yK,ya,ue,yn,zM,zS,zA,yI,List.getElem?_cons_zero,List.getElem?_cons_succ,List.set_cons_succ,List.set_cons_zero,zE,Rs.bind_ok,Fl.of_ok,xQ,vN,Bool.false_eq_true,if_false,hix,hm,Option.toList_none,List.append_nil]
theorem Wl(f:Nat→Option Tl)(k:Nat):(List.range (k+1)).filterMap f=(List.range k).filterMap f++(f k).toList:=by
 rw[List.range_succ,List.filterMap_append]
 simp only[List.filterMap_cons,List.filterMap_nil]
 cases h:f k <;> rfl
theorem Vn(f:Nat→Option Tl)(k:Nat):((List.range k).filterMap f).length≤k:=by
 have:=List.length_filterMap_le f (List.range k)
 rwa [List.length_range] at this
theorem zh4(a:Nat)(x:List Nat)(ts:List Tl)(ha:a<128)(hx:x.length≤1000)(hs:ts.length≤1000)(hn:∀t∈ts,0<t.2.length∧t.2.length≤1000) :
  ∃s4 s5,yO (gNm 4) YH ((List.range x.length).map fun (k:Nat)=>D.int (0+k)) [some (.val (zH a)),some (.val (tx x)),some (.val (.lst (ts.map tlD))),some (.own []),none,none]=.nx [some (.val (zH a)),some (.val (tx x)),some (.val (.lst (ts.map tlD))),some (.own ((Z4 a x ts).map tlD)),s4,s5]:=by
 obtain⟨τ',h1,s4,s5,h2⟩:=j2 (set:=gNm 4) (body:=YH) (fun (k:Nat)=>D.int (0+k)) (fun k τ=>∃s4 s5,τ=[some (.val (zH a)),some (.val (tx x)),some (.val (.lst (ts.map tlD))),some (.own (((List.range k).filterMap (jE a x ts)).map tlD)),s4,s5]) x.length
  [some (.val (zH a)),some (.val (tx x)),some (.val (.lst (ts.map tlD))),some (.own []),none,none] ⟨_,_,rfl⟩ fun k τ hk z_=>by
   obtain⟨s4,s5,e⟩:=z_
   subst e
   obtain⟨s',g⟩:=zh3 a x ts ((List.range k).filterMap (jE a x ts)) k s5 ha hx hs hn hk (by have:=Vn (jE a x ts) k;lia)
   have e0:(0:Int)+(k:Int)=(k:Int):=by lia
   rw[Wl]
   exact⟨_,_,by rw[e0];exact Zx,g,_,_,rfl⟩
 subst h2
 exact⟨s4,s5,h1⟩
theorem zu0(bd:FS)(ri:FA)(A B C:D)(n:Nat)(P:List D)(s4 s5:Option Sl)(r1:ri [some (.val A),some (.val B),some (.val C),some (.own []),none,none]=.ok ((List.range n).map fun (k:Nat)=>D.int (0+k)))
  (h1:yO (gNm 4) bd ((List.range n).map fun (k:Nat)=>D.int (0+k)) [some (.val A),some (.val B),some (.val C),some (.own []),none,none]=.nx [some (.val A),some (.val B),some (.val C),some (.own P),s4,s5]) :
  wE 6 (zI (uG 3 (fun τ=>(zi τ).bind fun ds=>if ds.length≤sizeLine then .ok ds else .no)) (zI (vY ri (gNm 4) bd) (ji 3))) [A,B,C]=.ok (.lst P):=by
 have st:z0 6 [A,B,C]=[some (.val A),some (.val B),some (.val C),none,none,none]:=rfl
 rw[yx,st]
 simp only[zU,vA,vB,vC,wZ,zS,List.getElem?_cons_zero,List.getElem?_cons_succ,List.set_cons_succ,List.set_cons_zero,xq,Rs.bind_ok,Fl.of_ok,yw,zZ,if_true,List.length_nil,Nat.zero_le,r1,h1]
theorem Lx:v8=(zI (uG 3 (fun τ=>(zi τ).bind fun ds=>if ds.length≤sizeLine then .ok ds else .no)) (zI (vY (vi (za (yd yr (za (ze 1) zi)) zi)) (gNm 4) YH) (ji 3))):=by unfold v8 YH;rfl
theorem MC(a:Nat)(x:List Nat)(ts:List Tl)(ha:a<128)(hx:x.length≤1000)(hs:ts.length≤1000)(hn:∀t∈ts,0<t.2.length∧t.2.length≤1000):xn [zH a,tx x,.lst (ts.map tlD)]=.ok (.lst ((Z4 a x ts).map tlD)):=by
 obtain⟨s4,s5,h1⟩:=zh4 a x ts ha hx hs hn
 unfold xn
 rw[Lx]
 exact zu0 _ _ _ _ _ x.length _ _ _ (Zo (uC (zo rfl) (wb x hx)) hx) h1
theorem W0(x:List Nat):∀q:List Nat,(z9 q x).length≤x.length
 |[]=>by simp[z9]
 |[a]=>by
  simp only[z9,Zb,List.length_map]
  have:=List.length_filter_le (fun p=>xF a (x.getD p 0)) (List.range x.length)
  rwa [List.length_range] at this
 |a::b::q=>by simp only[z9,Z4];exact Vn _ _
theorem UC(q x:List Nat)(hq:q≠[])(hl:q.length≤1000):∀t∈z9 q x,0<t.2.length∧t.2.length≤1000:=fun t ht=>by
 have:=(ud x q t ht).1.len
 have:0<q.length:=List.length_pos_iff.mpr hq
 lia
noncomputable def Wq:FS:=(yQ 2 (zv xn (za (eOp ixD (ze 0) (ze 3)) (za (ze 1) (za (ze 2) zi)))))
theorem zj8(q x:List Nat)(m:Nat)(hm:q.length=m+1)(hq:q.length≤1000)(hx:x.length≤1000)(ha:∀c∈q,c<128) :
  ∃s,yO (gNm 3) Wq (YO ((m:Int)-1) m) [some (.val (tx q)),some (.val (tx x)),some (.val (.lst ((z9 (q.drop m) x).map tlD))),none]=.nx [some (.val (tx q)),some (.val (tx x)),some (.val (.lst ((z9 q x).map tlD))),s]:=by
 obtain⟨τ',h1,s,h2⟩:=j2 (set:=gNm 3) (body:=Wq) (fun (k:Nat)=>D.int ((m:Int)-1-k)) (fun k τ=>∃s,τ=[some (.val (tx q)),some (.val (tx x)),some (.val (.lst ((z9 (q.drop (m-k)) x).map tlD))),s]) m
  [some (.val (tx q)),some (.val (tx x)),some (.val (.lst ((z9 (q.drop m) x).map tlD))),none] ⟨_,rfl⟩ fun k τ hk z_=>by
   obtain⟨s,e⟩:=z_
   subst e
   obtain⟨j,hj⟩:∃j,m=j+1+k:=⟨m-1-k,by lia⟩
   have e0:(m:Int)-1-(k:Int)=(j:Int):=by lia
   have d1:q.drop (m-k)=q.drop (j+1):=by congr 1;lia
   have d2:q.drop (m-(k+1))=q.drop j:=by congr 1;lia
   have hjq:j<q.length:=by lia
   have hne:q.drop (j+1)≠[]:=fun h=>by
    have:=congrArg List.length h
    rw[List.length_drop] at this;simp at this;lia
   have hlg:=MC (q.getD j 0) x (z9 (q.drop (j+1)) x) (ha _ (List.mem_of_getElem? (Z8 q j hjq))) hx (by have:=W0 x (q.drop (j+1));lia) (UC _ x hne (by rw[List.length_drop];lia))
   have ht:Z4 (q.getD j 0) x (z9 (q.drop (j+1)) x)=z9 (q.drop j) x:=by
    have e1:q.drop j=q.getD j 0::q.drop (j+1):=by
     rw[List.drop_eq_getElem_cons hjq,List.getD_eq_getElem?_getD,List.getElem?_eq_getElem hjq];rfl
    rw[e1]
    cases e2:q.drop (j+1) with
    |nil=>exact absurd e2 hne
    |cons b r=>rfl
   rw[ht] at hlg
   rw[d1,d2]
   refine⟨[some (.val (tx q)),some (.val (tx x)),some (.val (.lst ((z9 (q.drop (j+1)) x).map tlD))),some (.val (.int (j:Int)))],[some (.val (tx q)),some (.val (tx x)),some (.val (.lst ((z9 (q.drop j) x).map tlD))),some (.val (.int (j:Int)))],by rw[e0];rfl,?_,_,rfl⟩
   unfold Wq
   rw[yj,ur (op2 (zo rfl) (zo rfl) (WV q j hjq hq)) (zo rfl) (zo rfl) hlg,Fl.of_ok]
   rfl
 subst h2
 refine⟨s,?_⟩
 rw[Nat.sub_self,List.drop_zero] at h1
 exact h1
noncomputable def ldE:FE:=(fun τ=>((xK 1 [] (ve (ze 2)) (gNm 0) (fun _=>.ok true) (v7 (za (eOp zV (eOp ixD (ze 0) (eC (.int 0))) (zv xg (za (eOp ixD (eOp ixD (ze 0) (eC (.int 1))) (eC (.int 0))) zi))) (za (eOp ixD (ze 0) (eC (.int 1))) zi)))) τ).bind fun ds=>.ok (.lst ds))
theorem ld_ok(A B:D)(ts:List Tl)(s:Option Sl)(hs:ts.length≤1000)(hn:∀t∈ts,0<t.2.length):ldE [some (.val A),some (.val B),some (.val (.lst (ts.map tlD))),s]=.ok (.lst ((ts.map YU).map tlD)):=by
 have cf:=Yh (set:=gNm 0) (fe:=(v7 (za (eOp zV (eOp ixD (ze 0) (eC (.int 0))) (zv xg (za (eOp ixD (eOp ixD (ze 0) (eC (.int 1))) (eC (.int 0))) zi))) (za (eOp ixD (ze 0) (eC (.int 1))) zi)))) (τ:=[none]) tlD tlD YU ts fun t ht=>by
   refine Y11 ([some (.val (tlD t))]) rfl ?_
   have:=Ua t.2 (hn t ht)
   exact G0 (op2 (op2 (zo rfl) rfl (G2 t)) (za2 (op2 (op2 (zo rfl) rfl (G1 t)) rfl this) (zh6 _)) xW) (op2 (zo rfl) rfl (G1 t))
 have it:ve (ze 2) [some (.val A),some (.val B),some (.val (.lst (ts.map tlD))),s]=.ok (ts.map tlD):=rfl
 have ec:=vS (k:=1) (idx:=[]) (τ:=[some (.val A),some (.val B),some (.val (.lst (ts.map tlD))),s]) it cf (by simpa using hs)
 unfold ldE
 simp only[ec,Rs.bind_ok]
theorem za5:QC=(zI (sIf (FD.tB (eOp eqD (yd yr (za (ze 0) zi)) (eC (.int 0)))) (xb (v7 (za (eC (.int 0)) (za (jf zi) zi)))) yf)
  (zI (yQ 2 (zv yv (za (eOp ixD (ze 0) (xZ (eC (.int 1)))) (za (ze 1) zi))))
  (zI (vY (ML (za (eOp vV (yd yr (za (ze 0) zi)) (eC (.int 2))) (za (xZ (eC (.int 1))) (za (xZ (eC (.int 1))) zi)))) (gNm 3) Wq)
  (xb (zv zW (za ldE zi)))))):=by unfold QC Wq ldE;rfl
theorem zr6(q:List Nat)(m:Nat)(hm:q.length=m+1)(hq:q.length≤1000):ixD (tx q) (.int (-1))=.ok (zH (q.getD m 0)):=by
 refine Xn ?_ (by rw[vI,zK];lia)
 have e:ixN q.length (-1)=some m:=by
  unfold ixN
  rw[if_neg (by lia),if_pos (by lia)]
  congr 1;lia
 unfold atI
 show(ixN q.length (-1)).bind _=_
 rw[e]
 exact Z8 q m (by lia)
theorem bs_r3(q x:List Nat)(T:D)(m:Nat)(hm:q.length=m+1)(hq:q.length≤1000):ML (za (eOp vV (yd yr (za (ze 0) zi)) (eC (.int 2))) (za (xZ (eC (.int 1))) (za (xZ (eC (.int 1))) zi))) [some (.val (tx q)),some (.val (tx x)),some (.val T),none]=.ok (YO ((m:Int)-1) m):=by
 have a1:eOp vV (yd yr (za (ze 0) zi)) (eC (.int 2)) [some (.val (tx q)),some (.val (tx x)),some (.val T),none]=.ok (.int ((m:Int)-1)):=by
  refine op2 (uC (zo rfl) (wb q hq)) rfl ?_
  rw[vF];congr 2;lia
 have a2:∀τ,xZ (eC (.int 1)) τ=.ok (.int (-1)):=fun τ=>rfl
 have r3:=zn9 (fs:=za (eOp vV (yd yr (za (ze 0) zi)) (eC (.int 2))) (za (xZ (eC (.int 1))) (za (xZ (eC (.int 1))) zi))) (τ:=[some (.val (tx q)),some (.val (tx x)),some (.val T),none]) (i:=(m:Int)-1) (j:=-1)
  (by rw[zA,a1,Rs.bind_ok,zA,a2,Rs.bind_ok,zA,a2,Rs.bind_ok,zS,Rs.bind_ok,Rs.bind_ok,Rs.bind_ok]) (by lia) (by lia) (by lia) (by lia)
 rw[r3]
 congr 2
 lia
theorem zu1(g1:FT)(g2:FS)(e1 e2:FE)(r3:FA)(bd:FS)(A B T T' R:D)(L:List D)(s:Option Sl)(h0:g1 [some (.val A),some (.val B),none,none]=.ok false)(h1:e1 [some (.val A),some (.val B),none,none]=.ok T)(h2:r3 [some (.val A),some (.val B),some (.val T),none]=.ok L)(h3:yO (gNm 3) bd L [some (.val A),some (.val B),some (.val T),none]=.nx [some (.val A),some (.val B),some (.val T'),s])(h4:e2 [some (.val A),some (.val B),some (.val T'),s]=.ok R) :
  wE 4 (zI (sIf g1 g2 yf) (zI (yQ 2 e1) (zI (vY r3 (gNm 3) bd) (xb e2)))) [A,B]=.ok R:=by
 have st:z0 4 [A,B]=[some (.val A),some (.val B),none,none]:=rfl
 rw[yx,st]
 simp only[zU,yj,yK,ye,ya,wZ,List.set_cons_succ,List.set_cons_zero,Fl.of_ok,yw,zZ,Bool.false_eq_true,if_false,h0,h1,h2,h3,h4]
theorem zk0(q x:List Nat)(hne:q≠[])(hq:q.length≤1000)(hx:x.length≤1000)(ha:∀c∈q,c<128):uA [tx q,tx x]=.ok (j6 (Ze q x)):=by
 have hpos:0<q.length:=List.length_pos_iff.mpr hne
 obtain⟨m,hm⟩:∃m,q.length=m+1:=⟨q.length-1,by lia⟩
 obtain⟨s,hl⟩:=zj8 q x m hm hq hx ha
 have hmem:q.getD m 0∈q:=List.mem_of_getElem? (Z8 q m (by lia))
 have d:z9 (q.drop m) x=Zb (q.getD m 0) x:=by
  have e1:q.drop m=[q.getD m 0]:=by
   rw[List.drop_eq_getElem_cons (by lia),List.getD_eq_getElem?_getD,List.getElem?_eq_getElem (by lia:m<q.length),List.drop_eq_nil_of_le (by lia)];rfl
  rw[e1];rfl
 rw[d] at hl
 have h0:FD.tB (eOp eqD (yd yr (za (ze 0) zi)) (eC (.int 0))) [some (.val (tx q)),some (.val (tx x)),none,none]=.ok false:=by
  refine vy (op2 (uC (zo rfl) (wb q hq)) rfl ?_)
  rw[uR]
  congr 2
  simp;exact hne
 have h1:zv yv (za (eOp ixD (ze 0) (xZ (eC (.int 1)))) (za (ze 1) zi)) [some (.val (tx q)),some (.val (tx x)),none,none]=.ok (.lst ((Zb (q.getD m 0) x).map tlD)):=
  Zd (op2 (zo rfl) rfl (zr6 q m hm hq)) (zo rfl) (WN _ x (ha _ hmem) hx)
 have h4:zv zW (za ldE zi) [some (.val (tx q)),some (.val (tx x)),some (.val (.lst ((z9 q x).map tlD))),s]=.ok (j6 (Ze q x)):=
  za2 (ld_ok _ _ _ _ (by have:=W0 x q;lia) fun t ht=>(UC q x hne hq t ht).1) (zm7 _)
 unfold uA
 rw[za5]
 exact zu1 _ _ _ _ _ _ _ _ _ _ _ _ _ h0 h1 (bs_r3 q x _ m hm hq) hl h4
noncomputable def WM:List Nat→List Nat→Bool
 |[],[]=>false
 |[],_::_=>true
 |_::_,[]=>false
 |x::xs,y::ys=>if x=y then WM xs ys else decide (x<y)
theorem Vo:∀l:List Nat,WM l l=false:=by
 intro l_
 induction l_ with
 |nil=>
  exact rfl
 |cons x xs ih_=>
  simp[WM,ih_]
theorem Vp(l m:List Nat)(hl:0<l.length)(hm:0<m.length)(h:m.getD 0 0<l.getD 0 0):WM l m=false:=by
 cases l with
 |nil=>simp at hl
 |cons x xs=>
  cases m with
  |nil=>simp at hm
  |cons y ys=>
   simp only[List.getD_cons_zero] at h
   simp only[WM]
   rw[if_neg (by lia)]
   exact decide_eq_false (by lia)
theorem jG:∀(ts:List Tl) (c t:Tl),vk ts (some c)=some t→(t=c∧∀u∈ts,u.1≤c.1)∨(∃pre post,ts=pre++t::post∧c.1<t.1∧(∀u∈pre,u.1<t.1)∧∀u∈post,u.1≤t.1):=by
 intro l_
 induction l_ with
 |nil=>
  rintro c t h
  have:some c=some t:=h
  replace this:=sI_ this;subst this
  exact .inl ⟨rfl,fun u hu=>nomatch hu⟩
 |cons u r ih_=>
  rintro c t h
  have h:vk r (some (if c.1<u.1 then u else c))=some t:=h
  by_cases g:c.1<u.1
  ·rw[if_pos g] at h
   rcases ih_ u t h with ⟨e,h2⟩|⟨pre,post,e,h1,h2,h3⟩
   ·subst e
    exact .inr ⟨[],r,rfl,g,(fun v hv=>nomatch hv),h2⟩
   ·refine .inr ⟨u::pre,post,by rw[e];rfl,by lia,fun v hv=>?_,h3⟩
    rcases List.mem_cons.mp hv with e|e
    ·subst e;exact h1
    ·exact h2 v e
  ·rw[if_neg g] at h
   rcases ih_ c t h with ⟨e,h2⟩|⟨pre,post,e,h1,h2,h3⟩
   ·refine .inl ⟨e,fun v hv=>?_⟩
    rcases List.mem_cons.mp hv with e|e
    ·subst e;lia
    ·exact h2 v e
   ·refine .inr ⟨u::pre,post,by rw[e];rfl,h1,fun v hv=>?_,h3⟩
    rcases List.mem_cons.mp hv with e|e
    ·subst e;lia
    ·exact h2 v e
theorem Jt(ts:List Tl)(t:Tl)(h:vk ts none=some t):∃pre post,ts=pre++t::post∧(∀u∈pre,u.1<t.1)∧∀u∈post,u.1≤t.1:=by
 cases ts with
 |nil=>cases h
 |cons c r=>
  rcases jG r c t h with ⟨e,h2⟩|⟨pre,post,e,h1,h2,h3⟩
  ·subst e
   exact Y22 ([]) r rfl ((fun v hv=>nomatch hv)) h2
  ·refine Y22 (c::pre) post (by rw[e];rfl) (fun v hv=>?_) h3
   rcases List.mem_cons.mp hv with e|e
   ·subst e;exact h1
   ·exact h2 v e
noncomputable abbrev hd0(t:Tl):Nat:=t.2.getD 0 0
noncomputable def Srt(ts:List Tl):Prop:=ts.Pairwise fun a b=>hd0 a<hd0 b
theorem US(ts:List Tl)(w:Tl)(hs:Srt ts)(h:vk ts none=some w):∀u∈ts,u.1≤w.1∧(u.1=w.1→u=w∨hd0 w<hd0 u):=fun u hu=>by
 refine X22 (Jt ts w h) fun pre post e h1 h2=>?_
 rw[e] at hu
 rcases List.mem_append.mp hu with g|g
 ·have:=h1 u g
  exact⟨by lia,fun z=>by lia⟩
 ·rcases List.mem_cons.mp g with g|g
  ·subst g;exact⟨Int.le_refl _,fun _=>.inl rfl⟩
  ·refine⟨h2 u g,fun _=>.inr ?_⟩
   unfold Srt at hs
   rw[e] at hs
   have:=(List.pairwise_append.mp hs).2.1
   exact(List.pairwise_cons.mp this).1 u g
theorem Th(p:Nat)(ts:List Tl)(h:Srt ts):Srt (vj p ts):=by
 unfold Srt vj
 rw[List.pairwise_map]
 exact List.Pairwise.filter _ h
theorem Ti(ts:List Tl)(h:Srt ts):Srt (ts.map YU):=by
 unfold Srt
 rw[List.pairwise_map]
 exact h
theorem W4(x:List Nat):∀q:List Nat,Srt (z9 q x)
 |[]=>List.Pairwise.nil
 |[a]=>by
  unfold Srt z9 Zb
  rw[List.pairwise_map]
  exact List.Pairwise.filter _ List.pairwise_lt_range
 |a::b::q=>by
  unfold Srt z9 Z4
  rw[List.pairwise_filterMap]
  refine List.Pairwise.imp (fun {p r} hpr t ht u hu=>?_) List.pairwise_lt_range
  have key:∀(p:Nat) (t:Tl),jE a x (z9 (b::q) x) p=some t→hd0 t=p:=fun p t ht=>by
   unfold jE at ht
   split at ht
   ·cases e:vk (vj p (z9 (b::q) x)) none with
    |none=>rw[e] at ht;cases ht
    |some w=>rw[e] at ht;cases ht;rfl
   ·nomatch ht
  rw[key p t ht,key r u hu]
  exact hpr
theorem WZ(x:List Nat):∀(q:List Nat) (t:Tl),t∈z9 q x→∀l,Lay q x l→l.getD 0 0=hd0 t→vJ x q l≤t.1∧(vJ x q l=t.1→WM l t.2=false)
 |[],t,h,_,_,_=>by simp[z9] at h
 |[a],t,h,l,hl,he=>by
  simp only[z9,Zb,List.mem_map,List.mem_filter,List.mem_range] at h
  obtain⟨p,⟨h1,h2⟩,rfl⟩:=h
  have hlen:=hl.len
  cases l with
  |nil=>simp at hlen
  |cons r l=>
   cases l with
   |cons _ _=>simp at hlen
   |nil=>
    simp only[hd0,List.getD_cons_zero] at he
    subst he
    exact⟨by simp[vJ,sm],fun _=>Vo _⟩
 |a::b::q,t,h,l,hl,he=>by
  simp only[z9,Z4,List.mem_filterMap,List.mem_range] at h
  refine X11 h fun p h1 h2=>?_
  unfold jE at h2
  split at h2
  ·cases e:vk (vj p (z9 (b::q) x)) none with
   |none=>rw[e] at h2;cases h2
   |some w=>
    rw[e] at h2
    cases h2
    cases l with
    |nil=>have:=hl.len;simp at this
    |cons p' m=>
     simp only[hd0,List.getD_cons_zero] at he
     subst he
     refine X03 hl.tail fun k0 k1 k2 k3=>?_
     have hml:0<m.length:=by rw[k0.len];simp
     refine X11 (jQ x (b::q) m (by simp) k0) fun u u1 u2=>?_
     obtain⟨o1,o2⟩:=WZ x (b::q) u u1 m k0 u2.symm
     have hin:(u.1+uM p' (u.2.getD 0 0),u.2)∈vj p' (z9 (b::q) x):=by
      simp only[vj,List.mem_map,List.mem_filter,decide_eq_true_eq]
      exact Y11 u ⟨u1,by rw[u2];exact k3 hml⟩ rfl
     obtain⟨c1,c2⟩:=US _ w (Th p' _ (W4 x (b::q))) e _ hin
     have tl:vJ x (a::b::q) (p'::m)=jt a x p'+uM p' (m.getD 0 0)+vJ x (b::q) m:=by
      cases m with
      |nil=>simp at hml
      |cons r m=>rw[W1];rfl
     rw[tl]
     simp only at c1 c2
     rw[u2] at c1 c2
     refine⟨by show _≤jt a x p'+w.1;lia,fun z=>?_⟩
     have z:jt a x p'+uM p' (m.getD 0 0)+vJ x (b::q) m=jt a x p'+w.1:=z
     have z1:vJ x (b::q) m=u.1:=by lia
     have z2:u.1+uM p' (m.getD 0 0)=w.1:=by lia
     show WM (p'::m) (p'::w.2)=false
     simp only[WM,if_true]
     rcases c2 z2 with g|g
     ·rw[← g];exact o2 z1
     ·have hwl:0<w.2.length:=by
       rcases vp _ _ _ e with y|y
       ·simp only[vj,List.mem_map,List.mem_filter] at y
        obtain⟨v,⟨y1,_⟩,rfl⟩:=y
        have:=(ud x (b::q) v y1).1.len
        simp at this ⊢;lia
       ·nomatch y
      refine Vp m w.2 hml hwl ?_
      have g:hd0 w<u.2.getD 0 0:=g
      rw[u2] at g
      exact g
  ·nomatch h2
theorem za4(q x:List Nat)(hq:q≠[])(v:Int)(l:List Nat)(h:Ze q x=some (v,l))(m:List Nat)(hm:Lay q x m):pts q x m q.length≤v∧(pts q x m q.length=v→WM m l=false):=by
 have hs:=(Zz q x hq v l h).1
 unfold Ze at h
 refine X11 (jQ x q m hq hm) fun u u1 u2=>?_
 obtain⟨o1,o2⟩:=WZ x q u u1 m hm u2.symm
 obtain⟨c1,c2⟩:=US _ _ (Ti _ (W4 x q)) h (YU u) (List.mem_map_of_mem u1)
 have hpos:0<q.length:=List.length_pos_iff.mpr hq
 have hml:0<m.length:=by rw[hm.len];exact hpos
 have hll:0<l.length:=by rw[hs.len];exact hpos
 have tp:pts q x m q.length=vJ x q m+Vq (m.getD 0 0):=by
  cases q with
  |nil=>simp at hpos
  |cons a q=>
   have e:=hm.len
   cases m with
   |nil=>simp at hml
   |cons p m=>
    simp only[List.length_cons] at e ⊢
    have:q.length=m.length:=by lia
    rw[this,← UD];rfl
 simp only[YU] at c1 c2
 rw[u2] at c1 c2
 rw[tp]
 refine⟨by lia,fun z=>?_⟩
 have z1:vJ x q m=u.1:=by lia
 rcases c2 (by lia) with g|g
 ·have:u.2=l:=congrArg Prod.snd g
  rw[← this];exact o2 z1
 ·refine Vp m l hml hll ?_
  have g:l.getD 0 0<u.2.getD 0 0:=g
  rw[u2] at g
  exact g
theorem MZ(q x:List Nat)(hq:q≠[])(h:xa q x=false):Ze q x=none:=by
 cases e:Ze q x with
 |none=>rfl
 |some t=>
  have:=X7 x q t.2 (Zz q x hq t.1 t.2 e).1
  rw[h] at this;cases this
noncomputable def jl(q x:List Nat):Option Tl:=if q=[] then some (0,[]) else Ze q x
structure zw0(q x:List Nat)(v:Int)(l:List Nat):Prop where
 lay:Lay q x l
 pnt:v=pts q x l q.length
 opt:∀m,Lay q x m→pts q x m q.length≤v∧(pts q x m q.length=v→WM m l=false)
theorem zh7(x l:List Nat)(h:Lay [] x l):l=[]:=List.eq_nil_of_length_eq_zero h.len
theorem LC(x:List Nat):Lay [] x []:=⟨rfl,fun j hj=>by simp at hj,fun j hj=>by simp at hj,fun j hj=>by simp at hj⟩
theorem QA(q x l:List Nat)(h:Lay q x l):∃v l',jl q x=some (v,l')∧zw0 q x v l':=by
 unfold jl
 by_cases hq:q=[]
 ·subst hq
  rw[if_pos rfl]
  refine⟨0,[],rfl,LC x,rfl,fun m hm=>?_⟩
  rw[zh7 x m hm]
  exact⟨Int.le_refl _,fun _=>rfl⟩
 ·rw[if_neg hq]
  refine X22 (M0 q x l hq h) fun v l' e h1 h2=>?_
  exact⟨v,l',e,h1,h2,za4 q x hq v l' e⟩
theorem QB(q x:List Nat)(h:xa q x=false):jl q x=none:=by
 unfold jl
 by_cases hq:q=[]
 ·subst hq;cases x <;> simp[xa] at h
 ·rw[if_neg hq];exact MZ q x hq h
end Law
set_option Elab.async false
set_option linter.all false
set_option maxHeartbeats 1000000
namespace FD
open PySem PySem.Spec PyProof.Rows L2
theorem zs1{fi:FA}{τ:DS}{ds:List D}(h:fi τ=.ok ds)(hl:ds.length≤2000):uq fi τ=.ok ds:=by
 unfold uq
 rw[h,Rs.bind_ok]
 exact if_pos (by lia)
theorem WY{g:FT}{τ:DS}{b:Bool}(h:g τ=.ok b):wJ g τ=.ok (!b):=by rw[QK,h];rfl
theorem QP{fe:FE}{fl fh:FO}{τ:DS}{d r:D}{l u:Option Int}(h1:fe τ=.ok d)(h2:fl τ=.ok l)(h3:fh τ=.ok u)(h:slD d l u=.ok r):eSl fe fl fh τ=.ok r:=by
 rw[L5,h1,Rs.bind_ok,h2,Rs.bind_ok,h3,Rs.bind_ok,h]
theorem Gf{fe:FE}{τ:DS}{i:Int}(h:fe τ=.ok (.int i)):wt fe τ=.ok (some i):=by rw[XX,h];rfl
theorem zv1{fa fb:FE}{τ:DS}{d:D}(h1:fa τ=.ok (.bl true))(h2:fb τ=.ok d):MS fa fb τ=.ok d:=by
 rw[GL,h1,Rs.bind_ok,vN,Rs.bind_ok,if_pos rfl,h2]
theorem T9{f g:FT}{τ:DS}{b:Bool}(h1:f τ=.ok false)(h2:g τ=.ok b):Ys f g τ=.ok b:=by rw[ju,h1,Rs.bind_ok,if_neg (by simp),h2]
end FD
namespace Law
open PySem PySem.Spec PyProof.Rows L2 FD
theorem zb0(a b:List Nat)(ha:a.length≤1000)(hb:b.length≤1000):zV (tx a) (tx b)=.ok (tx (a++b)):=by
 rw[QE (by rw[vI,vI,zK];lia),zb9]
theorem zr4{τ:DS}:jf zi τ=.ok (.lst []):=by
 rw[Uq,zS,Rs.bind_ok];exact if_pos (Nat.zero_le _)
theorem zb1(q x:List Nat)(hq:q.length≤1000)(hx:x.length≤1000)(ha:∀c∈q,c<128):uA [tx q,tx x]=.ok (j6 (jl q x)):=by
 by_cases z:q=[]
 ·subst z
  have st:z0 4 [tx [],tx x]=[some (.val (tx [])),some (.val (tx x)),none,none]:=rfl
  have hl:=wb [] (by simp)
  have hg:FD.tB (eOp eqD (yd yr (za (ze 0) zi)) (eC (.int 0))) [some (.val (tx [])),some (.val (tx x)),none,none]=.ok true:=vy (op2 (uC (zo rfl) hl) rfl rfl)
  have he:v7 (za (eC (.int 0)) (za (jf zi) zi)) [some (.val (tx [])),some (.val (tx x)),none,none]=.ok (.tup [.int 0,.lst []]):=G0 rfl zr4
  unfold uA
  rw[za5,yx,st,zU,yK,hg,Fl.of_ok,if_pos rfl,ye,he]
  rfl
 ·have:=zk0 q x z hq hx ha
  rw[this]
  unfold jl
  rw[if_neg z]
theorem MP(fc:FA)(g:FT)(fx:FE)(A B C:D)(L:List D)(b:Bool)(d:D)(h1:fc [some (.val A),some (.val B),some (.val C),none]=.ok L)(h2:g [some (.val A),some (.val B),some (.val C),some (.own L)]=.ok b)
  (h3:b=true→fx [some (.val A),some (.val B),some (.val C),some (.own L)]=.ok d∧0<L.length) :
  wE 4 (zI (uG 3 fc) (zI (sIf g (G9 3 (eC (.int 0)) fx) yf) (ji 3))) [A,B,C]=.ok (.lst (if b=true then L.set 0 d else L)):=by
 have st:z0 4 [A,B,C]=[some (.val A),some (.val B),some (.val C),none]:=rfl
 rw[yx,st]
 cases b with
 |false=>simp only[zU,vA,yK,vB,vC,ya,VP,yM,List.getElem?_cons_zero,List.getElem?_cons_succ,List.set_cons_succ,List.set_cons_zero,xq,Fl.of_ok,yw,zZ,Bool.false_eq_true,if_false,h1,h2,vA,vB,vC,xq,Bool.false_eq_true,if_false]
 |true=>
  obtain⟨h3,h4⟩:=h3 rfl
  have hp:=Tz (n:=3) (τ:=[some (.val A),some (.val B),some (.val C),some (.own L)]) (d:=d) (j:=0) h4
  have e0:(((0:Nat):Int))=0:=rfl
  rw[e0] at hp
  simp only[zU,vA,yK,vB,vC,ya,VP,yM,List.getElem?_cons_zero,List.getElem?_cons_succ,List.set_cons_succ,List.set_cons_zero,xq,Fl.of_ok,yw,zZ,if_true,h1,h2,h3,vA,vB,vC,xq,VP,hp]
theorem zr8:jh=(zI (uG 3 (xK 1 [0,1] (vi (za (zv zu (za (ze 0) (za (ze 1) (za (eOp zV (ze 2) (eC (.int 1))) zi)))) zi)) (gNm 0) (fun _=>.ok true) (zv xI (za (ze 1) (za (eOp zV (eOp zV (ze 2) (eC (.int 1))) (eOp jC (eC (.int 12)) (ze 0))) zi)))))
  (zI (sIf (ZH (FD.tB (eOp gtD (Yg 3) (eC (.int 1)))) (FD.tB (eOp eqD (zv zu (za (ze 0) (za (eOp zV (ze 1) (eC (.int 12))) (za (eC (.int 5)) zi)))) (eC (.int 0))))) (G9 3 (eC (.int 0)) (MR 3 (xZ (eC (.int 1))))) yf)
  (ji 3))):=by unfold jh;rfl
noncomputable def QF(x:List Nat):Prop:=0<x.length∧x.length≤10∧∀c∈x,c∈NS
theorem Lq(ns:List Int)(a:Int)(h0:0≤a):QF (up ns a (Vj ns a)):=by
 have d:=vh ns a (m:=10) (by decide)
 have hl:(up ns a (Vj ns a)).length=(1+wd ns a 10).toNat:=by simp[up,Vj]
 refine⟨by rw[hl];lia,by rw[hl];lia,fun c hc=>?_⟩
 obtain⟨k,_,rfl⟩:=List.mem_map.mp hc
 exact Mx ns a k (by lia)
theorem and_b{f g:FT}{τ:DS}{b c:Bool}(h1:f τ=.ok b)(h2:b=true→g τ=.ok c):ZH f g τ=.ok (b&&c):=by
 rw[uf,h1,Rs.bind_ok]
 cases b with
 |false=>rfl
 |true=>rw[if_pos rfl,h2 rfl];rfl
theorem Lp(ns:List Int)(a most:Int)(h63:ns.length≤63)(h0:0≤a)(ha:a<800000)(hm0:0≤most)(hm1:most<50) :
  ∃X:List (List Nat),xT [.scr ns,.int a,.int most]=.ok (.lst (X.map tx))∧(X.length:Int)≤most∧∀x∈X,QF x:=by
 have dl:=vh ns a (m:=most+1) (by lia)
 have dk:=vg ns a (most+1) h63 h0 (by lia) (by lia)
 have dk2:=vg ns (a+12) 5 h63 (by lia) (by lia) (by decide)
 generalize hN:wd ns a (most+1)=N at *
 generalize wd ns (a+12) 5=M at *
 have cf:=Yh (set:=gNm 0) (fe:=(zv xI (za (ze 1) (za (eOp zV (eOp zV (ze 2) (eC (.int 1))) (eOp jC (eC (.int 12)) (ze 0))) zi)))) (τ:=[none,some (.val (.scr ns)),some (.val (.int a))]) (fun (k:Nat)=>D.int (0+k)) tx
  (fun k=>up ns (a+1+12*(k:Int)) (Vj ns (a+1+12*(k:Int)))) (List.range N.toNat) fun k hk=>by
   have hk:=List.mem_range.mp hk
   refine Y11 ([some (.val (.int (k:Int))),some (.val (.scr ns)),some (.val (.int a))]) (by rw[Int.zero_add];rfl) ?_
   exact Zd (zo rfl) (op2 (op2 (zo rfl) rfl xW) (op2 rfl (zo rfl) (jB (by lia))) xW) (zg5 ns _ h63 (by lia) (by lia))
 have it:vi (za (zv zu (za (ze 0) (za (ze 1) (za (eOp zV (ze 2) (eC (.int 1))) zi)))) zi) [some (.val (.scr ns)),some (.val (.int a)),some (.val (.int most)),none]=.ok ((List.range N.toNat).map fun (k:Nat)=>D.int (0+k)):=
  Zo (n:=N.toNat) (by rw[Int.toNat_of_nonneg dl.1];exact ur (zo rfl) (zo rfl) (op2 (zo rfl) rfl xW) dk) (by lia)
 have ec:=vS (k:=1) (idx:=[0,1]) it cf (by simp;lia)
 generalize hX0:(List.range N.toNat).map (fun (k:Nat)=>up ns (a+1+12*(k:Int)) (Vj ns (a+1+12*(k:Int))))=X0 at ec cf
 have l0:X0.length=N.toNat:=by rw[← hX0];simp
 have ok0:∀x∈X0,QF x:=fun x hx=>by
  rw[← hX0] at hx
  obtain⟨k,_,rfl⟩:=List.mem_map.mp hx
  exact Lq ns _ (by lia)
 have hg:ZH (FD.tB (eOp gtD (Yg 3) (eC (.int 1)))) (FD.tB (eOp eqD (zv zu (za (ze 0) (za (eOp zV (ze 1) (eC (.int 12))) (za (eC (.int 5)) zi)))) (eC (.int 0)))) [some (.val (.scr ns)),some (.val (.int a)),some (.val (.int most)),some (.own (X0.map tx))]=.ok (decide (1<(X0.length:Int))&&(M==0)):=
  and_b (vy (op2 (a:=.int (X0.length:Int)) (by rw[Yf];show Rs.ok (D.int ((X0.map tx).length:Int))=_;rw[List.length_map]) rfl GD)) fun _=>vy (op2 (ur (zo rfl) (op2 (zo rfl) rfl xW) rfl dk2) rfl uR)
 have hne:(decide (1<(X0.length:Int))&&(M==0))=true→0<X0.length:=fun h=>by
  rw[Bool.and_eq_true,decide_eq_true_eq] at h;lia
 have e:=MP _ _ (MR 3 (xZ (eC (.int 1)))) (.scr ns) (.int a) (.int most) (X0.map tx) _ (tx (X0.getD (X0.length-1) [])) ec hg fun h=>by
  have hp:=hne h
  refine⟨?_,by rw[List.length_map];exact hp⟩
  rw[zj3]
  show(Rs.ok (X0.map tx)).bind (fun ds=>(xZ (eC (.int 1)) _).bind (ixO ds))=_
  rw[Rs.bind_ok,Xr,yM,Rs.bind_ok]
  show(Rs.ok (D.int (-1))).bind _=_
  rw[Rs.bind_ok]
  unfold ixO
  have:atI (X0.map tx) (-1)=some (tx (X0.getD (X0.length-1) [])):=by
   have e:ixN (X0.map tx).length (-1)=some (X0.length-1):=by
    unfold ixN
    rw[List.length_map,if_neg (by lia),if_pos (by lia)]
    congr 1;lia
   unfold atI
   rw[e]
   show(X0.map tx)[X0.length-1]?=_
   rw[List.getElem?_map,List.getElem?_eq_getElem (by lia)]
   simp[show X0.length-1<X0.length by lia]
  simp only[this]
 unfold xT
 rw[zr8,e]
 cases hb:(decide (1<(X0.length:Int))&&(M==0)) with
 |false=>exact Y12 X0 (by rw[if_neg (by simp)]) (by lia) ok0
 |true=>
  have hp:=hne hb
  refine Y12 (X0.set 0 (X0.getD (X0.length-1) [])) (by rw[if_pos rfl,List.map_set]) (by rw[List.length_set];lia) (fun x hx=>?_)
  rcases List.mem_or_eq_of_mem_set hx with h|h
  ·exact ok0 x h
  ·rw[h]
   have:X0.getD (X0.length-1) []=X0[X0.length-1]'(by lia):=by simp[show X0.length-1<X0.length by lia]
   rw[this]
   exact ok0 _ (List.getElem_mem _)
theorem Jo{α β:Type}(f:α→β)(x:List Int×α):∀l:List (List Int×α),Wc (x.1,f x.2) (l.map fun p=>(p.1,f p.2))=(Wc x l).map fun p=>(p.1,f p.2):=by
 intro l_
 induction l_ with
 |nil=>
  exact rfl
 |cons y r ih_=>
  rw[List.map_cons,Wc,Wc]
  split
  ·rfl
  ·rw[ih_];rfl
theorem W6{α β:Type}(f:α→β):∀l:List (List Int×α),wV (l.map fun p=>(p.1,f p.2))=(wV l).map fun p=>(p.1,f p.2):=by
 intro l_
 induction l_ with
 |nil=>
  exact rfl
 |cons x r ih_=>
  rw[List.map_cons,wV,wV,ih_,Jo]
noncomputable def wj{α:Type}(key:α→List Int)(rs:List α):List α:=(wV (rs.map fun r=>(key r,r))).map (·.2)
theorem zc2{α:Type}(key:α→List Int)(f:α→D)(rs:List α):(wV ((rs.map key).zip (rs.map f))).map (·.2)=(wj key rs).map f:=by
 have e:(rs.map key).zip (rs.map f)=(rs.map fun r=>(key r,r)).map fun p=>(p.1,f p.2):=by
  induction rs with
  |nil=>rfl
  |cons r rs ih=>simp only[List.map_cons,List.zip_cons_cons,ih]
 rw[e,W6]
 unfold wj
 rw[List.map_map,List.map_map];rfl
theorem uU{α:Type}(key:α→List Int)(rs:List α):(wj key rs).Perm rs:=by
 have:=(vW (rs.map fun r=>(key r,r))).map (·.2)
 rw[List.map_map] at this
 have e:rs.map ((fun p:List Int×α=>p.2) ∘ fun r=>(key r,r))=rs:=by
  rw[show((fun p:List Int×α=>p.2) ∘ fun r=>(key r,r))=id from rfl,List.map_id]
 rw[e] at this
 exact this
theorem Xv{α:Type}(key:α→List Int)(rs:List α):∀p∈wV (rs.map fun r=>(key r,r)),p.1=key p.2:=fun p hp=>by
 have:=(vW (rs.map fun r=>(key r,r))).mem_iff.mp hp
 obtain⟨r,_,rfl⟩:=List.mem_map.mp this
 rfl
theorem W5{α:Type}(key:α→List Int)(rs:List α)(nd:(rs.map key).Nodup):(wj key rs).Pairwise fun a b=>lxI (key a) (key b)=true:=by
 have h:=Yt (rs.map fun r=>(key r,r)) (by rw[List.map_map];exact nd)
 unfold wj
 rw[List.pairwise_map]
 refine h.imp_of_mem fun {a b} ha hb q=>?_
 rw[← Xv key rs a ha,← Xv key rs b hb];exact q
theorem JP{α:Type}(key:α→List Int){l rs:List α}(p:l.Perm rs)(h:l.Pairwise fun a b=>lxI (key a) (key b)=true)(nd:(rs.map key).Nodup):l=wj key rs:=
 Yx (fun a b x y=>by rw[Vl x] at y;cases y) (p.trans (uU key rs).symm) h (W5 key rs nd)
noncomputable def kD(k:List Int):D:=.tup (k.map D.int)
theorem Vu:∀k:List Int,Wa (k.map D.int)=some k:=by
 intro l_
 induction l_ with
 |nil=>
  exact rfl
 |cons i k ih_=>
  show(Wa (k.map D.int)).map (i :: ·)=_
  rw[ih_];rfl
theorem zt1(k:List Int):zi1 (kD k)=some k:=Vu k
theorem Vs{α:Type}(key:α→List Int):∀rs:List α,YX (rs.map fun r=>kD (key r))=some (rs.map key):=by
 intro l_
 induction l_ with
 |nil=>
  exact rfl
 |cons r rs ih_=>
  rw[List.map_cons,YX,zt1,ih_];rfl
theorem JV{α:Type}(key:α→List Int)(f:α→D)(rs:List α)(h64:rs.length<64)(nd:(rs.map key).Nodup)(ne:∀r,key r≠[]):Yu (rs.map fun r=>kD (key r)) (rs.map f)=.ok (.lst ((wj key rs).map f)):=by
 unfold Yu
 rw[Vs]
 simp only
 rw[if_pos ⟨by simpa using h64,nd,fun k hk=>by obtain⟨r,_,rfl⟩:=List.mem_map.mp hk;exact ne r⟩,zc2]
theorem YV{α:Type}{idx:List Nat}{fb:FE}{τ:DS}(key:α→List Int)(f:α→D):∀rs:List α,(∀r∈rs,MH idx fb τ (f r)=.ok (kD (key r)))→vQ idx fb τ (rs.map f)=.ok (rs.map fun r=>kD (key r)):=by
 intro l_
 induction l_ with
 |nil=>
  rintro _
  exact rfl
 |cons r rs ih_=>
  rintro h
  rw[List.map_cons,vQ,h r List.mem_cons_self]
  simp only[ih_ fun s hs=>h s (List.mem_cons_of_mem _ hs),List.map_cons]
theorem Qt{α:Type}{idx:List Nat}{fe fb:FE}{τ:DS}(key:α→List Int)(f:α→D)(rs:List α)(h:fe τ=.ok (.lst (rs.map f)))(hk:∀r∈rs,MH idx fb τ (f r)=.ok (kD (key r)))(h64:rs.length<64)(nd:(rs.map key).Nodup)(ne:∀r,key r≠[]) :
  Wn idx fe fb τ=.ok (.lst ((wj key rs).map f)):=by
 unfold Wn
 rw[h,Rs.bind_ok]
 simp only[YV key f rs hk]
 exact JV key f rs h64 nd ne
noncomputable abbrev Rw:=Int×Nat
noncomputable def yC(r:Rw):D:=.tup [.int r.1,.int (r.2:Int)]
theorem row_0(r:Rw):ixD (yC r) (.int 0)=.ok (.int r.1):=rfl
theorem QY(r:Rw):ixD (yC r) (.int 1)=.ok (.int (r.2:Int)):=rfl
theorem YE{key:Rw→List Int}(hk:∀r s,key r=key s→r.2=s.2):∀rs:List Rw,(rs.map (·.2)).Nodup→(rs.map key).Nodup:=by
 intro l_
 induction l_ with
 |nil=>
  rintro _
  exact List.nodup_nil
 |cons r rs ih_=>
  rintro h
  rw[List.map_cons,List.nodup_cons] at h ⊢
  refine⟨fun hm=>h.1 ?_,ih_ h.2⟩
  refine X11 (List.mem_map.mp hm) fun s hs e=>?_
  exact List.mem_map.mpr ⟨s,hs,hk s r e⟩
noncomputable def vD(X:List (List Nat))(r:Rw):List Int:=[-r.1,((X.getD r.2 []).length:Int),(r.2:Int)]
theorem Jg(X:List (List Nat))(r s:Rw)(h:vD X r=vD X s):r.2=s.2:=by
 unfold vD at h
 injection h with h1 h2
 injection h2 with h2 h3
 injection h3 with h3 _
 lia
theorem size3:∀a b c:D,([a,b,c]:List D).length≤sizeLine:=fun a b c=>by rw[zK];exact Nat.le_of_ble_eq_true rfl
theorem tup3{fa fb fc:FE}{τ:DS}{a b c:D}(h1:fa τ=.ok a)(h2:fb τ=.ok b)(h3:fc τ=.ok c):v7 (za fa (za fb (za fc zi))) τ=.ok (.tup [a,b,c]):=by
 rw[GJ,zA,h1,Rs.bind_ok,zA,h2,Rs.bind_ok,zA,h3,Rs.bind_ok,zS,Rs.bind_ok,Rs.bind_ok,Rs.bind_ok,Rs.bind_ok]
 exact if_pos (size3 a b c)
theorem zr5{fa:FE}{τ:DS}{i:Int}(h:fa τ=.ok (.int i)):xZ fa τ=.ok (.int (-i)):=by rw[Xr,h];rfl
theorem XZ(X:List (List Nat))(i:Nat)(h:i<X.length):ixD (.lst (X.map tx)) (.int (i:Int))=.ok (tx (X.getD i [])):=by
 refine Gw (Uu ?_)
 rw[List.getElem?_map,List.getElem?_eq_getElem h]
 simp[h]
theorem zb7(ds:List D)(n:Nat):slD (.lst ds) none (some (n:Int))=.ok (.lst (ds.take n)):=by
 have:FD.cutD ds none (some (n:Int))=ds.take n:=by
  have e0:HT.sIx ds.length 0 none=0:=rfl
  have e1:HT.sIx ds.length ds.length (some (n:Int))=min n ds.length:=by
   unfold HT.sIx
   have:¬ ((n:Int)<0):=by lia
   simp[this]
  unfold FD.cutD
  rw[e0,e1,List.drop_zero,Nat.sub_zero]
  rcases Nat.le_total n ds.length with z|z
  ·rw[Nat.min_eq_left z]
  ·rw[Nat.min_eq_right z,List.take_length,List.take_of_length_le z]
 show Rs.ok (D.lst (FD.cutD ds none (some (n:Int))))=_
 rw[this]
theorem zf3:ZA=(xb (Wn [0] (ze 1) (v7 (za (xZ (eOp ixD (ze 0) (eC (.int 0)))) (za (yd yr (za (eOp ixD (ze 1) (eOp ixD (ze 0) (eC (.int 1)))) zi)) (za (eOp ixD (ze 0) (eC (.int 1))) zi)))))):=by unfold ZA;rfl
structure zb3(X:List (List Nat))(rs:List Rw):Prop where
 few:rs.length<64
 nd:(rs.map (·.2)).Nodup
 lt:∀r∈rs,r.2<X.length
 sz:∀x∈X,x.length≤1000
theorem getD_mem{X:List (List Nat)}{i:Nat}(h:i<X.length):X.getD i []∈X:=by
 have:X.getD i []=X[i]:=by simp[h]
 rw[this];exact List.getElem_mem _
theorem T8(X:List (List Nat))(rs:List Rw)(h:zb3 X rs):ww [.lst (X.map tx),.lst (rs.map yC)]=.ok (.lst ((wj (vD X) rs).map yC)):=by
 have st:z0 2 [.lst (X.map tx),.lst (rs.map yC)]=[some (.val (.lst (X.map tx))),some (.val (.lst (rs.map yC)))]:=rfl
 unfold ww
 rw[zf3,yx,st,ye,Qt (vD X) yC rs (zo rfl) (fun r hr=>?_) h.few (YE (Jg X) rs h.nd) (fun r z=>nomatch z)]
 ·rfl
 ·have hlt:=h.lt r hr
  have hsz:=h.sz _ (getD_mem hlt)
  have:v7 (za (xZ (eOp ixD (ze 0) (eC (.int 0)))) (za (yd yr (za (eOp ixD (ze 1) (eOp ixD (ze 0) (eC (.int 1)))) zi)) (za (eOp ixD (ze 0) (eC (.int 1))) zi))) [some (.val (yC r)),some (.val (.lst (X.map tx)))]=.ok (kD (vD X r)):=tup3 (zr5 (op2 (zo rfl) rfl (row_0 r))) (uC (op2 (zo rfl) (op2 (zo rfl) rfl (QY r)) (XZ X r.2 hlt)) (wb _ hsz)) (op2 (zo rfl) rfl (QY r))
  exact this
theorem zs0(i j:Int):X3 [.int i,.int j]=.ok (.int (if i<j then j else i)):=rfl
theorem zj1:jg=(W7 (fSl (zv ww (za (ze 0) (za (ze 1) zi))) vK (wt (yd X3 (za (ze 2) (za (eC (.int 0)) zi)))))):=by unfold jg;rfl
theorem blt2{g:List D→Rs D}{fa fb:FE}{τ:DS}{a b d:D}(h1:fa τ=.ok a)(h2:fb τ=.ok b)(h:g [a,b]=.ok d):yd g (za fa (za fb zi)) τ=.ok d:=by
 rw[vf,zA,h1,Rs.bind_ok,zA,h2,Rs.bind_ok,zS,Rs.bind_ok,Rs.bind_ok,Rs.bind_ok,h]
theorem zp7{fa:FE}{τ:DS}{i:Int}(h:fa τ=.ok (.int i)):wt fa τ=.ok (some i):=by rw[XX,h];rfl
theorem L8(ds:List D)(n:Nat):FD.cutD ds none (some (n:Int))=ds.take n:=by
 have:=zb7 ds n
 have e:slD (.lst ds) none (some (n:Int))=Rs.ok (D.lst (FD.cutD ds none (some (n:Int)))):=rfl
 rw[e] at this
 injection this with this
 injection this with this
theorem zu4{fe:FE}{fl fh:FO}{τ:DS}{ds:List D}{l u:Option Int}(h1:fe τ=.ok (.lst ds))(h2:fl τ=.ok l)(h3:fh τ=.ok u):fSl fe fl fh τ=.ok (FD.cutD ds l u):=by
 unfold fSl
 rw[h1,Rs.bind_ok,h2,Rs.bind_ok,h3,Rs.bind_ok]
theorem Vw(X:List (List Nat))(rs:List Rw)(many:Nat)(h:zb3 X rs):xh [.lst (X.map tx),.lst (rs.map yC),.int (many:Int)]=.ok (((wj (vD X) rs).take many).map yC):=by
 have st:z0 3 [.lst (X.map tx),.lst (rs.map yC),.int (many:Int)]=[some (.val (.lst (X.map tx))),some (.val (.lst (rs.map yC))),some (.val (.int (many:Int)))]:=rfl
 have hm:X3 [.int (many:Int),.int 0]=.ok (.int (many:Int)):=by
  rw[zs0];rw[if_neg (by lia)]
 have e:fSl (zv ww (za (ze 0) (za (ze 1) zi))) vK (wt (yd X3 (za (ze 2) (za (eC (.int 0)) zi)))) [some (.val (.lst (X.map tx))),some (.val (.lst (rs.map yC))),some (.val (.int (many:Int)))]=.ok (((wj (vD X) rs).take many).map yC):=by
  rw[zu4 (Zd (zo rfl) (zo rfl) (T8 X rs h)) rfl (zp7 (blt2 (zo rfl) rfl hm)),L8,List.map_take]
 unfold xh FD.runN
 rw[zj1,st]
 unfold W7
 rw[e,Fl.of_ok]
 rfl
theorem LY(X:List (List Nat))(rs:List Rw)(many:Nat)(h:zb3 X rs):xR [.lst (X.map tx),.lst (rs.map yC),.int (many:Int)]=.ok (.lst (((wj (vD X) rs).take many).map yC)):=by
 unfold xR
 rw[Vw X rs many h,Rs.bind_ok]
noncomputable def fr1(X:List (List Nat))(q:List Nat)(i:Nat):Option Rw:=(jl q (X.getD i [])).map fun t=>(t.1,i)
noncomputable def Z9:FS:=(zI (yQ 5 (zv uA (za (ze 1) (za (eOp ixD (ze 0) (ze 4)) zi))))
  (sIf (FD.tB (eOp jb (ze 5) (eC .non))) (WB 3 (v7 (za (eOp ixD (ze 5) (eC (.int 0))) (za (ze 4) zi)))) yf))
theorem fit_b:v9=(zI (uG 3 (fun τ=>(zi τ).bind fun ds=>if ds.length≤sizeLine then .ok ds else .no)) (zI (vY (ve (ze 2)) (gNm 4) Z9) (ji 3))):=by unfold v9 Z9;rfl
theorem LW(e e2:FE)(a0 a1 a2 a3 a4 a5:Option Sl)(h:e [a0,a1,a2,a3,a4,a5]=.ok .non) :
  (zI (yQ 5 e) (sIf (FD.tB (eOp jb (ze 5) (eC .non))) (WB 3 e2) yf)) [a0,a1,a2,a3,a4,a5]=.nx [a0,a1,a2,a3,a4,some (.val .non)]:=by
 simp only[zU,yj,yK,ya,ug,wg,yn,zM,yM,List.getElem?_cons_zero,List.getElem?_cons_succ,List.set_cons_succ,List.set_cons_zero,zE,Rs.bind_ok,Fl.of_ok,yw,z8,Bool.false_eq_true,if_false,h,Vt]
theorem LU(e e2:FE)(a0 a1 a2 a4 a5:Option Sl)(L:List D)(t:Tl)(R:D)(h:e [a0,a1,a2,some (.own L),a4,a5]=.ok (tlD t))(h2:e2 [a0,a1,a2,some (.own L),a4,some (.val (tlD t))]=.ok R)(hl:L.length<sizeLine) :
  (zI (yQ 5 e) (sIf (FD.tB (eOp jb (ze 5) (eC .non))) (WB 3 e2) yf)) [a0,a1,a2,some (.own L),a4,a5]=.nx [a0,a1,a2,some (.own (L++[R])),a4,some (.val (tlD t))]:=by
 simp only[zU,yj,yK,ya,ug,wg,yn,zM,yM,List.getElem?_cons_zero,List.getElem?_cons_succ,List.set_cons_succ,List.set_cons_zero,zE,xq,Rs.bind_ok,Fl.of_ok,yw,z8,if_true,h,Jk,h2,ug,xq]
 rw[if_pos hl]
theorem LX(X:List (List Nat))(q:List Nat)(i:Nat)(a2 a5:Option Sl)(acc:List Rw)(hi:i<X.length)(hq:q.length≤1000)(hX:∀x∈X,x.length≤1000)(ha:∀c∈q,c<128)(hc:acc.length≤1000) :
  ∃t5,Z9 [some (.val (.lst (X.map tx))),some (.val (tx q)),a2,some (.own (acc.map yC)),some (.val (.int (i:Int))),a5]=.nx [some (.val (.lst (X.map tx))),some (.val (tx q)),a2,some (.own ((acc++(fr1 X q i).toList).map yC)),some (.val (.int (i:Int))),t5]:=by
 have hb:=zb1 q (X.getD i []) hq (hX _ (getD_mem hi)) ha
 have he:zv uA (za (ze 1) (za (eOp ixD (ze 0) (ze 4)) zi)) [some (.val (.lst (X.map tx))),some (.val (tx q)),a2,some (.own (acc.map yC)),some (.val (.int (i:Int))),a5]=.ok (j6 (jl q (X.getD i []))):=
  Zd (zo rfl) (op2 (zo rfl) (zo rfl) (XZ X i hi)) hb
 unfold Z9 fr1
 cases z:jl q (X.getD i []) with
 |none=>
  rw[z] at he
  exact⟨some (.val .non),(LW _ _ _ _ _ _ _ _ he).trans (by simp)⟩
 |some t=>
  rw[z] at he
  have h2:v7 (za (eOp ixD (ze 5) (eC (.int 0))) (za (ze 4) zi)) [some (.val (.lst (X.map tx))),some (.val (tx q)),a2,some (.own (acc.map yC)),some (.val (.int (i:Int))),some (.val (tlD t))]=.ok (yC (t.1,i)):=G0 (op2 (zo rfl) rfl (G2 t)) (zo rfl)
  exact⟨some (.val (tlD t)),(LU _ _ _ _ _ _ _ _ t _ he h2 (by rw[zK,List.length_map];lia)).trans (by simp)⟩
noncomputable def uP(X:List (List Nat))(q:List Nat)(is:List Nat):List Rw:=is.flatMap fun i=>(fr1 X q i).toList
theorem Ju(X:List (List Nat))(q:List Nat)(a2:Option Sl)(hq:q.length≤1000)(hX:∀x∈X,x.length≤1000)(ha:∀c∈q,c<128):∀(is:List Nat) (acc:List Rw) (a4 a5:Option Sl),(∀i∈is,i<X.length)→acc.length+is.length≤1000 →
  ∃t4 t5,yO (gNm 4) Z9 (is.map fun (i:Nat)=>D.int i) [some (.val (.lst (X.map tx))),some (.val (tx q)),a2,some (.own (acc.map yC)),a4,a5]=.nx [some (.val (.lst (X.map tx))),some (.val (tx q)),a2,some (.own ((acc++uP X q is).map yC)),t4,t5]:=by
 intro l_
 induction l_ with
 |nil=>
  rintro acc a4 a5 _ _
  exact⟨a4,a5,by unfold uP;simp[yO]⟩
 |cons i is ih_=>
  rintro acc a4 a5 hi hc
  rw[List.length_cons] at hc
  obtain⟨t5,e⟩:=LX X q i a2 a5 acc (hi i List.mem_cons_self) hq hX ha (by lia)
  have hl:(acc++(fr1 X q i).toList).length+is.length≤1000:=by
   rw[List.length_append]
   have:(fr1 X q i).toList.length≤1:=by cases fr1 X q i <;> simp
   lia
  obtain⟨u4,u5,ih⟩:=ih_ (acc++(fr1 X q i).toList) (some (.val (.int (i:Int)))) t5 (fun j hj=>hi j (List.mem_cons_of_mem _ hj)) hl
  refine⟨u4,u5,?_⟩
  rw[List.map_cons,yO,Zx,Fl.of_ok]
  simp only[List.set_cons_succ,List.set_cons_zero,e]
  rw[ih]
  unfold uP
  rw[List.flatMap_cons,List.append_assoc]
theorem nilO(τ:DS):(fun τ=>(zi τ).bind fun ds=>if ds.length≤sizeLine then Rs.ok ds else Rs.no) τ=.ok []:=by
 show(if ([]:List D).length≤sizeLine then Rs.ok [] else Rs.no)=_
 exact if_pos (Nat.zero_le sizeLine)
theorem LS(e:FA)(b:FS)(A B C:D)(L R:List D)(t4 t5:Option Sl)(h0:e [some (.val A),some (.val B),some (.val C),none,none,none]=.ok [])(hi:Ji C=.ok L)
  (h1:yO (gNm 4) b L [some (.val A),some (.val B),some (.val C),some (.own []),none,none]=.nx [some (.val A),some (.val B),some (.val C),some (.own R),t4,t5]) :
  wE 6 (zI (uG 3 e) (zI (vY (ve (ze 2)) (gNm 4) b) (ji 3))) [A,B,C]=.ok (.lst R):=by
 have st:z0 6 [A,B,C]=[some (.val A),some (.val B),some (.val C),none,none,none]:=rfl
 rw[yx,st]
 simp only[zU,vA,vB,vC,wZ,Z6,zM,List.getElem?_cons_zero,List.getElem?_cons_succ,List.set_cons_succ,List.set_cons_zero,zE,xq,Rs.bind_ok,Fl.of_ok,yw,zZ,h0,hi,h1,vA,vB,vC,xq]
theorem GE(X:List (List Nat))(q:List Nat)(is:List Nat)(hq:q.length≤1000)(hX:∀x∈X,x.length≤1000)(ha:∀c∈q,c<128)(hi:∀i∈is,i<X.length)(hl:is.length≤1000) :
  yb [.lst (X.map tx),tx q,.lst (is.map fun (i:Nat)=>D.int i)]=.ok (.lst ((uP X q is).map yC)):=by
 obtain⟨t4,t5,h⟩:=Ju X q (some (.val (.lst (is.map fun (i:Nat)=>D.int i)))) hq hX ha is [] none none hi (by simpa using hl)
 unfold yb
 rw[fit_b]
 exact LS _ _ _ _ _ _ _ _ _ (nilO _) rfl (by simpa using h)
theorem Vx:∀rs:List Rw,plainDs (rs.map yC)=true∧PyData.canLayAll0 (toPys (rs.map yC))=true∧PyData.depthAll (toPys (rs.map yC))≤1:=by
 intro l_
 induction l_ with
 |nil=>
  exact⟨rfl,rfl,Nat.zero_le _⟩
 |cons r rs ih_=>
  refine X02 ih_ fun h1 h2 h3=>?_
  refine⟨by simp[plainDs,wn,yC,h1],by simp[toPys,we,yC,PyData.canLayAll0,PyData.canLay0,h2],?_⟩
  simp only[List.map_cons,toPys,we,yC,PyData.depthAll,PyData.depth]
  lia
theorem Jy:∀rs:List Rw,PyData.eqvAll (toPys (rs.map yC)) (toPys (rs.map yC))=true:=by
 intro l_
 induction l_ with
 |nil=>
  rfl
 |cons r rs ih_=>
  have:=ih_
  simp[toPys,we,yC,PyData.eqvAll,PyData.eqv,this]
noncomputable def abcN:List Nat:=[97,98,99]
theorem abc_s:("abc" : Str)=⟨abcN.toArray⟩:=by decide +kernel
theorem zv5:QF abcN:=⟨by decide,by decide,by decide⟩
theorem zj7(X:List (List Nat))(h:X.length≤1000):zV (.lst (X.map tx)) (.lst [.str "abc"])=.ok (.lst ((X++[abcN]).map tx)):=by
 show(if _ then Rs.ok (D.lst _) else Rs.no)=_
 rw[if_pos (by rw[zK,List.length_map,List.length_singleton];lia),List.map_append,abc_s]
 rfl
noncomputable def qE(a b m:Int):FE:=(zv xS (za (ze 0) (za (eC (.int a)) (za (eOp ixD (eOp zV (ze 1) (jf (za (eC (.str "abc")) zi))) (zv zu (za (ze 0) (za (eC (.int b)) (za (eOp zV (yd yr (za (ze 1) zi)) (eC (.int 1))) zi))))) (za (eC (.int m)) zi)))))
theorem zu7{f:List D→Rs D}{fa fb fc fd:FE}{τ:DS}{a b c d r:D}(h1:fa τ=.ok a)(h2:fb τ=.ok b)(h3:fc τ=.ok c)(h4:fd τ=.ok d)(h:f [a,b,c,d]=.ok r):zv f (za fa (za fb (za fc (za fd zi)))) τ=.ok r:=by
 rw[yI,zA,h1,Rs.bind_ok,zA,h2,Rs.bind_ok,zA,h3,Rs.bind_ok,zA,h4,Rs.bind_ok,zS,Rs.bind_ok,Rs.bind_ok,Rs.bind_ok,Rs.bind_ok,Rs.bind_ok,h];rfl
theorem qE_ok(ns:List Int)(X:List (List Nat))(a b m:Int)(h63:ns.length≤63)(ha0:0≤a)(ha:a<900000)(hb0:0≤b)(hb:b<900000)(hm0:0≤m)(hm:m<50)(hX:∀x∈X,QF x)(hl:X.length≤1000)(r:DS) :
  ∃q:List Nat,(q.length:Int)≤m∧(∀c∈q,c∈QS)∧qE a b m (some (.val (.scr ns))::some (.val (.lst (X.map tx)))::r)=.ok (tx q):=by
 have dl:=vh ns b (m:=(X.length:Int)+1) (by lia)
 have dk:=vg ns b ((X.length:Int)+1) h63 hb0 (by lia) (by lia)
 generalize wd ns b ((X.length:Int)+1)=M at dl dk
 have hi:M.toNat<(X++[abcN]).length:=by rw[List.length_append,List.length_singleton];lia
 have hm':(X++[abcN]).getD M.toNat []∈X++[abcN]:=getD_mem hi
 have hn:QF ((X++[abcN]).getD M.toNat []):=by
  rcases List.mem_append.mp hm' with z|z
  ·exact hX _ z
  ·have:(X++[abcN]).getD M.toNat []=abcN:=by simpa using z
   rw[this];exact zv5
 refine X12 (Tv ns a ((X++[abcN]).getD M.toNat []) m h63 ha0 ha hm0 hm hn.1 (Nat.le_trans hn.2.1 (by decide)) hn.2.2) fun q q1 q2 q3=>?_
 refine Y12 q q1 q2 ?_
 have ix:=XZ (X++[abcN]) M.toNat hi
 rw[Int.toNat_of_nonneg dl.1] at ix
 unfold qE
 exact zu7 (zo rfl) rfl (op2 (op2 (zo rfl) (Lw rfl) (zj7 X hl)) (ur (zo rfl) rfl (op2 (uC (zo rfl) v5) rfl (by rw[List.length_map];exact xW)) dk) ix) rfl q3
noncomputable def j8(X:List (List Nat))(q:List Nat):List Rw:=uP X q (List.range X.length)
theorem jO(X:List (List Nat))(q:List Nat):∀is:List Nat,((uP X q is).map (·.2)).Sublist is:=by
 intro l_
 induction l_ with
 |nil=>
  exact List.Sublist.refl _
 |cons i is ih_=>
  have ih:=ih_
  unfold uP at ih ⊢
  rw[List.flatMap_cons,List.map_append]
  unfold fr1 at ih ⊢
  cases z:jl q (X.getD i []) with
  |none=>simp;exact List.Sublist.cons _ (by simpa using ih)
  |some t=>simp;exact(by simpa using ih)
theorem zk7(X:List (List Nat))(q:List Nat)(hX:∀x∈X,x.length≤1000)(hl:X.length<64):zb3 X (j8 X q):=by
 have s:=jO X q (List.range X.length)
 refine⟨?_,s.nodup List.nodup_range,fun r hr=>?_,hX⟩
 ·have:=s.length_le
  rw[List.length_map,List.length_range] at this
  unfold j8;lia
 ·have:=s.mem (List.mem_map.mpr ⟨r,hr,rfl⟩)
  simpa using this
theorem Xf(n:Nat):((List.range n).map fun (k:Nat)=>D.int (0+k))=(List.range n).map fun (i:Nat)=>D.int i:=List.map_congr_left fun k _=>by rw[Int.zero_add]
theorem all_b:ZB=(xb (zv yb (za (ze 0) (za (ze 1) (za (fun τ=>((uq (vi (za (yd yr (za (ze 0) zi)) zi))) τ).bind fun ds=>.ok (.lst ds)) zi))))):=by unfold ZB;rfl
theorem zv2(X:List (List Nat))(q:List Nat)(hq:q.length≤1000)(hX:∀x∈X,x.length≤1000)(ha:∀c∈q,c<128)(hl:X.length<64):wy [.lst (X.map tx),tx q]=.ok (.lst ((j8 X q).map yC)):=by
 have st:z0 2 [.lst (X.map tx),tx q]=[some (.val (.lst (X.map tx))),some (.val (tx q))]:=rfl
 have r1:vi (za (yd yr (za (ze 0) zi)) zi) [some (.val (.lst (X.map tx))),some (.val (tx q))]=.ok ((List.range X.length).map fun (i:Nat)=>D.int i):=by
  rw[← Xf]
  exact Zo (uC (zo rfl) (by rw[v5,List.length_map])) (by lia)
 have e:zv yb (za (ze 0) (za (ze 1) (za (fun τ=>((uq (vi (za (yd yr (za (ze 0) zi)) zi))) τ).bind fun ds=>.ok (.lst ds)) zi))) [some (.val (.lst (X.map tx))),some (.val (tx q))]=.ok (.lst ((j8 X q).map yC)):=by
  refine ur (zo rfl) (zo rfl) ?_ (GE X q (List.range X.length) hq hX ha (fun i hi=>List.mem_range.mp hi) (by rw[List.length_range];lia))
  unfold uq
  rw[r1,Rs.bind_ok,if_pos (by rw[List.length_map,List.length_range];lia)];rfl
 unfold wy
 rw[all_b,yx,st,ye,e];rfl
theorem zj2:Ut=(xb (zv xR (za (ze 0) (za (zv wy (za (ze 0) (za (ze 1) zi))) (za (ze 2) zi))))):=by unfold Ut;rfl
theorem Jx(X:List (List Nat))(q:List Nat)(many:Nat)(hq:q.length≤1000)(hX:∀x∈X,x.length≤1000)(ha:∀c∈q,c<128)(hl:X.length<64):wN [.lst (X.map tx),tx q,.int (many:Int)]=.ok (.lst (((wj (vD X) (j8 X q)).take many).map yC)):=by
 have st:z0 3 [.lst (X.map tx),tx q,.int (many:Int)]=[some (.val (.lst (X.map tx))),some (.val (tx q)),some (.val (.int (many:Int)))]:=rfl
 have e:zv xR (za (ze 0) (za (zv wy (za (ze 0) (za (ze 1) zi))) (za (ze 2) zi))) [some (.val (.lst (X.map tx))),some (.val (tx q)),some (.val (.int (many:Int)))]=.ok (.lst (((wj (vD X) (j8 X q)).take many).map yC)):=
  ur (zo rfl) (Zd (zo rfl) (zo rfl) (zv2 X q hq hX ha hl)) (zo rfl) (LY X _ many (zk7 X q hX hl))
 unfold wN
 rw[zj2,yx,st,ye,e];rfl
theorem zX{f g:FS}{τ τ':DS}(h:f τ=.nx τ'):zI f g τ=g τ':=by rw[zU,h,yw]
theorem if_f{g:FT}{a b:FS}{τ:DS}(h:g τ=.ok false):sIf g a b τ=b τ:=by rw[yK,h,Fl.of_ok,if_neg (by simp)]
theorem if_t{g:FT}{a b:FS}{τ:DS}(h:g τ=.ok true):sIf g a b τ=a τ:=by rw[yK,h,Fl.of_ok,if_pos rfl]
theorem Wd{g:FT}{a:FS}{τ:DS}(h:g τ=.ok false):sIf g a yf τ=.nx τ:=if_f h
theorem vX{i:Nat}{fe:FE}{τ:DS}{d:D}(h:fe τ=.ok d):yQ i fe τ=.nx (τ.set i (some (.val d))):=by rw[yj,h,Fl.of_ok]
theorem Zp{fe:FE}{τ:DS}{d:D}(h:fe τ=.ok d):xb fe τ=.rt d:=by rw[ye,h,Fl.of_ok]
theorem VU{fe:FE}{τ:DS}{d:D}(h:fe τ=.ok d):ZL fe τ=.ro d τ:=by unfold ZL;rw[h,Fl.of_ok]
theorem ub{τ:DS}{i n:Nat}{c:Str}{fs:Fs}(h:τ[i]?=some (some (.obj n c fs))):uz τ i c=.ok fs:=by unfold uz;rw[h];exact if_pos rfl
theorem WJ{τ:DS}{i:Nat}{c:Str}{fs:Fs}(h:τ[i]?=some (some (.obr c fs))):uz τ i c=.ok fs:=by unfold uz;rw[h];exact if_pos rfl
theorem V6{τ:DS}{i n:Nat}{c:Str}{fs:Fs}(h:τ[i]?=some (some (.obj n c fs))):v0 τ i c=.ok (n,fs):=by unfold v0;rw[h];exact if_pos rfl
theorem Zj{τ:DS}{i:Nat}{c f:Str}{fs:Fs}{d:D}(h:uz τ i c=.ok fs)(hf:xX f fs=some d):eAt i c f τ=.ok d:=by unfold eAt;rw[h,Rs.bind_ok,hf]
theorem T7{τ:DS}{i:Nat}{c f:Str}{fs:Fs}{ds:List D}(h:uz τ i c=.ok fs)(hf:xX f fs=some (.lst ds)):U5 τ i c f=.ok ds:=by unfold U5;rw[h,Rs.bind_ok,hf]
theorem zr0{τ:DS}{i n:Nat}{c f:Str}{fs:Fs}{ds:List D}(h:τ[i]?=some (some (.obj n c fs)))(hf:xX f fs=some (.lst ds)):omO τ i c f=.ok (n,fs,ds):=by unfold omO;rw[V6 h,Rs.bind_ok];show(match xX f fs with|some (.lst ds)=>Rs.ok (n,fs,ds) | _=>.no)=_;rw[hf]
theorem len_A{τ:DS}{i:Nat}{c f:Str}{ds:List D}(h:U5 τ i c f=.ok ds):JC i c f τ=.ok (.int ds.length):=by unfold JC;rw[h];rfl
theorem ix_A{τ:DS}{i:Nat}{c f:Str}{ds:List D}{fi:FE}{k:Int}{d:D}(h:U5 τ i c f=.ok ds)(hi:fi τ=.ok (.int k))(hd:atI ds k=some d):Qw i c f fi τ=.ok d:=by unfold Qw;rw[h,Rs.bind_ok,hi,Rs.bind_ok];show(match atI ds k with|some d=>Rs.ok d|none=>.no)=_;rw[hd]
theorem VO{τ:DS}{i n:Nat}{c f:Str}{fs:Fs}{d:D}{fe:FE}(he:fe τ=.ok d)(h:τ[i]?=some (some (.obj n c fs)))(hl:fs.length<1000):sAt i c f fe τ=.nx (τ.set i (some (.obj n c (xH f d fs)))):=by
 unfold sAt;rw[he,Fl.of_ok,V6 h,Fl.of_ok];exact if_pos hl
theorem zc8{τ:DS}{i n:Nat}{c f:Str}{fs:Fs}{ds:List D}{ff:FA}(he:ff τ=.ok ds)(h:τ[i]?=some (some (.obj n c fs)))(hl:fs.length<1000):zd0 i c f ff τ=.nx (τ.set i (some (.obj n c (xH f (.lst ds) fs)))):=by
 unfold zd0;rw[he,Fl.of_ok,V6 h,Fl.of_ok];exact if_pos hl
theorem zk6{τ:DS}{i n:Nat}{c f:Str}{fs:Fs}{ds:List D}{d:D}{fe:FE}(h:τ[i]?=some (some (.obj n c fs)))(hf:xX f fs=some (.lst ds))(he:fe τ=.ok d)(hl:ds.length≤1000):UP i c f fe τ=.nx (τ.set i (some (.obj n c (xH f (.lst (ds++[d])) fs)))):=by
 unfold UP;rw[zr0 h hf,Fl.of_ok,he,Fl.of_ok];exact if_pos (by rw[zK];show ds.length<_;lia)
theorem wK{τ:DS}{i:Nat}{c m:Str}{g:Fs→List D→Rs D}{fa:FA}{o:Fs}{ds:List D}{d:D}(h:uz τ i c=.ok o)(hm:xX m o=none)(ha:fa τ=.ok ds)(hg:g o ds=.ok d):yL i c m g fa τ=.ok d:=by
 unfold yL;rw[h,Rs.bind_ok,hm,if_pos (by rfl),ha,Rs.bind_ok,hg];rfl
theorem j1{τ:DS}{i n:Nat}{c m:Str}{g:Fs→List D→Rs (D×Fs)}{fa:FA}{o o':Fs}{ds:List D}{d:D}(h:τ[i]?=some (some (.obj n c o)))(hm:xX m o=none)(ha:fa τ=.ok ds)(hg:g o ds=.ok (d,o')):wu i c m g fa τ=.ok (d,τ.set i (some (.obj n c o'))):=by
 unfold wu;rw[V6 h,Rs.bind_ok];show(if (xX m o).isNone=true then _ else _)=_;rw[hm,if_pos (by rfl),ha,Rs.bind_ok,hg]
theorem Xs{τ:DS}{i:Nat}{c:Str}{g:Fs→List D→Rs D}{f1 f2:FA}{o:Fs}{ds1 ds2:List D}{d:D}(h:uz τ i c=.ok o)(h1:f1 τ=.ok ds1)(h2:f2 τ=.ok ds2)(hg:g o (ds1++ds2)=.ok d):uS i c g f1 f2 τ=.ok d:=by
 unfold uS;rw[h,Rs.bind_ok,h1,Rs.bind_ok,h2,Rs.bind_ok,hg];rfl
theorem Wu{fa:FE}{τ:DS}{a:D}(h:fa τ=.ok a):za fa zi τ=.ok [a]:=by rw[zA,h,Rs.bind_ok,zS,Rs.bind_ok]
theorem zk5{fa fb:FE}{τ:DS}{a b:D}(h:fa τ=.ok a)(h2:fb τ=.ok b):za fa (za fb zi) τ=.ok [a,b]:=by rw[zA,h,Rs.bind_ok,Wu h2,Rs.bind_ok]
theorem Yb{fo:FOb}{τ τ':DS}{d:D}(h:fo τ=.ok (d,τ')):vG fo τ=.nx τ':=by unfold vG;rw[h,Fl.of_ok]
theorem Gm{i:Nat}{c:Str}{g:Fs→List D→Rs (D×Fs)}{fa:FA}{τ:DS}{ds:List D}{o:Fs}(ha:fa τ=.ok ds)(hg:g [] ds=.ok (.non,o)):YN i c g fa τ=.nx (τ.set i (some (.obj 0 c o))):=by
 unfold YN;rw[ha,Fl.of_ok,hg]
theorem Lf{op:D→D→Rs D}{fo:FOb}{fb:FE}{τ τ':DS}{a b r:D}(h1:fo τ=.ok (a,τ'))(h2:fb τ'=.ok b)(h3:op a b=.ok r):oOp op fo fb τ=.ok (r,τ'):=by
 unfold oOp;rw[h1,Rs.bind_ok];show(fb τ').bind _=_;rw[h2,Rs.bind_ok];show(op a b).bind _=_;rw[h3];rfl
theorem zl9{fo:FOb}{τ τ':DS}{b:Bool}(h:fo τ=.ok (.bl b,τ')):oB fo τ=.ok (b,τ'):=by unfold oB;rw[h];rfl
theorem Ge{g:FT}{τ:DS}{b:Bool}(h:g τ=.ok b):J8 g τ=.ok (b,τ):=by unfold J8;rw[h];rfl
theorem zl8{ga gb:Ww}{τ τ' τ'':DS}{b:Bool}(h1:ga τ=.ok (false,τ'))(h2:gb τ'=.ok (b,τ'')):Qc ga gb τ=.ok (b,τ''):=by
 unfold Qc;rw[h1,Rs.bind_ok];show(if false=true then _ else gb τ')=_;rw[if_neg (by simp),h2]
theorem zm2{g:Ww}{a:FS}{τ τ':DS}(h:g τ=.ok (false,τ')):Ma g a yf τ=.nx τ':=by
 unfold Ma;rw[h,Fl.of_ok];show(if false=true then _ else yf τ')=_;rw[if_neg (by simp)];rfl
noncomputable def jI:FS:=(sIf (ZH (FD.tB (eOp ltI (Yg 2) (yd yr (za (ze 0) zi)))) (wB (zv wc (za (eOp ixD (ze 0) (Yg 2)) (za (eOp ixD (ze 1) (ze 3)) zi))))) (WB 2 (ze 3)) yf)
theorem GH(q x:List Nat)(hq:q.length≤1000)(hx:x.length≤1000)(ha:∀c∈q,c<128):∀(m k:Nat) (b:List Nat) (s:Option Sl),k+m=x.length→b.length≤k →
  ∃s',yO (gNm 3) jI ((List.range' k m).map fun (k:Nat)=>D.int (0+k)) [some (.val (tx q)),some (.val (tx x)),some (.own (b.map fun (k:Nat)=>D.int k)),s]
   = .nx [some (.val (tx q)),some (.val (tx x)),some (.own ((b++epR (q.drop b.length) (x.drop k) k).map fun (k:Nat)=>D.int k)),s']:=by
 intro l_
 induction l_ with
 |zero=>
  rintro k b s h hb
  have:x.drop k=[]:=List.drop_eq_nil_of_le (by lia)
  rw[this]
  have e:epR (q.drop b.length) [] k=[]:=by cases q.drop b.length <;> rfl
  rw[e,List.append_nil]
  exact⟨s,rfl⟩
 |succ m ih_=>
  rintro k b s h hb
  have hk:k<x.length:=by lia
  have hxk:=M7 x k x[k] (List.getElem?_eq_getElem hk) hx
  rw[List.range'_succ,List.map_cons,yO,Zx,Fl.of_ok,List.drop_eq_getElem_cons hk]
  simp only[List.set_cons_succ,List.set_cons_zero,Int.zero_add]
  have ih:=fun b' s' h'=>ih_ (k+1) b' s' (by lia) h'
  simp only[Int.zero_add] at ih
  by_cases hl:b.length<q.length
  ·have hqb:=M7 q b.length q[b.length] (List.getElem?_eq_getElem hl) hq
   have hbz:b.length<sizeLine:=by rw[zK];lia
   have hmt:=X2 q[b.length] x[k] (ha _ (List.getElem_mem hl))
   rw[List.drop_eq_getElem_cons hl]
   by_cases hm:xF q[b.length] x[k]=true
   ·obtain⟨s',e⟩:=ih (b++[k]) (some (.val (.int k))) (by simp;lia)
    refine⟨s',?_⟩
    have:jI [some (.val (tx q)),some (.val (tx x)),some (.own (b.map fun (k:Nat)=>D.int k)),some (.val (.int k))]=.nx [some (.val (tx q)),some (.val (tx x)),some (.own ((b++[k]).map fun (k:Nat)=>D.int k)),some (.val (.int k))]:=by
     unfold jI
     simp only[yK,ya,ug,Yf,wg,ue,uf,yn,zM,zS,zA,yI,vf,List.getElem?_cons_zero,List.getElem?_cons_succ,List.set_cons_succ,List.set_cons_zero,zE,xq,Rs.bind_ok,Fl.of_ok,xQ,z8,vN,Lv,if_true,List.length_map,wb q hq,Int.ofNat_lt,hl,decide_true,hqb,hxk,hmt,hm,hbz,List.map_append,List.map_cons,List.map_nil]
    simp only[this]
    rw[e]
    simp only[epR,hm,if_true,List.append_assoc,List.cons_append,List.nil_append,List.length_append,List.length_cons,List.length_nil,Nat.zero_add]
   ·obtain⟨s',e⟩:=ih b (some (.val (.int k))) (by lia)
    refine⟨s',?_⟩
    have hm':xF q[b.length] x[k]=false:=by simpa using hm
    have:jI [some (.val (tx q)),some (.val (tx x)),some (.own (b.map fun (k:Nat)=>D.int k)),some (.val (.int k))]=.nx [some (.val (tx q)),some (.val (tx x)),some (.own (b.map fun (k:Nat)=>D.int k)),some (.val (.int k))]:=by
     unfold jI
     simp only[yK,ya,ug,Yf,wg,ue,uf,yn,zM,zS,zA,yI,vf,List.getElem?_cons_zero,List.getElem?_cons_succ,List.set_cons_succ,List.set_cons_zero,zE,xq,Rs.bind_ok,Fl.of_ok,xQ,z8,vN,Lv,if_true,Bool.false_eq_true,if_false,List.length_map,wb q hq,Int.ofNat_lt,hl,decide_true,hqb,hxk,hmt,hm']
    simp only[this]
    rw[e,List.drop_eq_getElem_cons hl]
    simp only[epR,hm',Bool.false_eq_true,if_false]
  ·obtain⟨s',e⟩:=ih b (some (.val (.int k))) (by lia)
   refine⟨s',?_⟩
   have:jI [some (.val (tx q)),some (.val (tx x)),some (.own (b.map fun (k:Nat)=>D.int k)),some (.val (.int k))]=.nx [some (.val (tx q)),some (.val (tx x)),some (.own (b.map fun (k:Nat)=>D.int k)),some (.val (.int k))]:=by
    unfold jI
    simp only[yK,ya,ug,Yf,wg,ue,uf,yn,zM,zS,zA,yI,vf,List.getElem?_cons_zero,List.getElem?_cons_succ,List.set_cons_succ,List.set_cons_zero,zE,xq,Rs.bind_ok,Fl.of_ok,z8,Lv,Bool.false_eq_true,if_false,List.length_map,wb q hq,Int.ofNat_lt,hl,decide_false]
   simp only[this]
   rw[e,List.drop_eq_nil_of_le (by lia:q.length≤b.length)]
   simp only[epR]
theorem ep_ok(q x:List Nat)(hq:q.length≤1000)(hx:x.length≤1000)(ha:∀c∈q,c<128):yX [tx q,tx x]=.ok (nts (epR q x 0)):=by
 have st:z0 4 [tx q,tx x]=[some (.val (tx q)),some (.val (tx x)),none,none]:=rfl
 obtain⟨s',e⟩:=GH q x hq hx ha x.length 0 [] none (by lia) (Nat.le_refl _)
 unfold jI at e
 have r1:=VT (fs:=za (yd yr (za (ze 1) zi)) zi) (τ:=[some (.val (tx q)),some (.val (tx x)),some (.own []),none]) (j:=x.length) (by simp only[zM,zS,zA,vf,List.getElem?_cons_zero,List.getElem?_cons_succ,zE,Rs.bind_ok,wb x hx]) (by lia) (by lia)
 unfold yX uu
 rw[yx,st]
 simp only[zU,vA,wZ,zS,List.set_cons_succ,List.set_cons_zero,Rs.bind_ok,Fl.of_ok,yw,if_true,List.length_nil,Nat.zero_le,r1,jr,Int.toNat_natCast]
 rw[List.range_eq_range']
 rw[show([]:List D)=([]:List Nat).map fun (k:Nat)=>D.int k from rfl,e]
 simp only[vB,vC,List.getElem?_cons_zero,List.getElem?_cons_succ,xq,Fl.of_ok,yw,zZ,List.nil_append,List.length_nil,List.drop_zero]
theorem Ul(q x:List Nat)(hq:q.length≤1000)(hx:x.length≤1000)(ha:∀c∈q,c<128):wx [tx q,tx x]=.ok (.bl (xa q x)):=by
 have st:z0 2 [tx q,tx x]=[some (.val (tx q)),some (.val (tx x))]:=rfl
 unfold wx za7
 rw[yx,st]
 simp only[ye,yn,zM,zS,zA,yI,vf,List.getElem?_cons_zero,List.getElem?_cons_succ,zE,Rs.bind_ok,Fl.of_ok,zZ,xQ,uR,v5,ep_ok q x hq hx ha,wb q hq,List.length_map]
 congr 2
 rw[Bool.eq_iff_iff,← Yc q x 0,beq_iff_eq]
 lia
theorem j0:∀(l:List Nat),plainDs (l.map fun (k:Nat)=>D.int k)=true∧PyData.canLayAll0 (toPys (l.map fun (k:Nat)=>D.int k))=true∧PyData.depthAll (toPys (l.map fun (k:Nat)=>D.int k))=0∧PyData.eqvAll (toPys (l.map fun (k:Nat)=>D.int k)) (toPys (l.map fun (k:Nat)=>D.int k))=true:=by
 intro l_
 induction l_ with
 |nil=>
  exact⟨rfl,rfl,rfl,by simp[toPys,PyData.eqvAll]⟩
 |cons a r ih_=>
  refine X03 ih_ fun h1 h2 h3 h4=>?_
  exact⟨by simp[plainDs,wn,h1],by simp[toPys,we,PyData.canLayAll0,PyData.canLay0,h2],by simp[toPys,we,PyData.depthAll,PyData.depth,h3],by simp[toPys,we,PyData.eqvAll,PyData.eqv,h4]⟩
theorem Qd(l:List Nat):okD (nts l)=true:=by
 refine X03 (j0 l) fun a b c _=>?_
 simp[okD,wn,we,PyData.canLay0,PyData.depth,a,b,c]
theorem Lg(l:List Nat):neD (nts l) (nts l)=.ok (.bl false):=by
 refine X03 (j0 l) fun _ _ _ d=>?_
 have ok:=Qd l
 unfold nts at ok ⊢
 simp only[neD,ok,and_self,if_true,vq,we,PyData.eqv,d,Bool.not_true]
theorem zr3(l:List Nat):eqD (nts l) (nts l)=.ok (.bl true):=by
 refine X03 (j0 l) fun _ _ _ d=>?_
 have ok:=Qd l
 unfold nts at ok ⊢
 simp only[eqD,ok,and_self,if_true,vq,we,PyData.eqv,d]
theorem zf9(i:Int):okD (.int i)=true:=by simp[okD,wn,we,PyData.canLay0,PyData.depth]
theorem Mw(k:Nat)(L:List Nat):XY (.int (k:Int)) (nts L)=.ok (.bl (!L.contains k)):=by
 unfold XY
 have:inD (.int (k:Int)) (nts L)=.ok (.bl (L.contains k)):=by
  show(if okD (.int (k:Int))=true∧okD (nts L)=true then Rs.ok (D.bl ((L.map fun (k:Nat)=>D.int k).any fun y=>vq y (.int (k:Int)))) else Rs.no)=_
  rw[if_pos ⟨zf9 _,Qd L⟩,List.any_map]
  refine congrArg Rs.ok (congrArg D.bl ?_)
  rw[Bool.eq_iff_iff,List.any_eq_true,List.contains_iff_mem]
  constructor
  ·rintro⟨r,hr,e⟩
   have:((r:Nat):Int)=k:=by
    have e:PyData.eqv (PyData.int _) (PyData.int _)=true:=e
    simpa[PyData.eqv] using e
   have:r=k:=by lia
   rw[← this];exact hr
  ·intro h
   refine Y11 k h ?_
   show PyData.eqv (PyData.int _) (PyData.int _)=true
   simp[PyData.eqv]
 rw[this];rfl
theorem ns_lt:∀c∈NS,c<128:=by decide +kernel
theorem Q0:∀c∈QS,c<128:=by decide +kernel
theorem UH(x:List Nat):xa [] x=true:=by simp[xa]
theorem UG(q r:List Nat)(x:List Nat)(h:xa (q++r) x=true):xa q x=true:=by
 induction x generalizing q with
 |nil=>
  cases q with
  |nil=>simp[xa]
  |cons a q=>simp[xa] at h
 |cons c x ih=>
  cases q with
  |nil=>simp[xa]
  |cons a q=>
   simp only[List.cons_append,xa] at h ⊢
   split
   ·rename_i hm
    rw[if_pos hm] at h
    exact ih q h
   ·rename_i hm
    rw[if_neg hm] at h
    exact ih (a::q) (by simpa using h)
theorem G3{q x:List Nat}(i:Nat)(h:xa q x=true):xa (q.take i) x=true:=UG (q.take i) (q.drop i) x (by rw[List.take_append_drop];exact h)
noncomputable def yz(X:List (List Nat))(q:List Nat):List Nat:=(List.range X.length).filter fun k=>xa q (X.getD k [])
noncomputable def LV(X:List (List Nat))(q:List Nat):List (List Nat):=(List.range (q.length+1)).map fun i=>yz X (q.take i)
theorem Jv(X:List (List Nat)):yz X []=List.range X.length:=by
 unfold yz
 exact List.filter_eq_self.mpr fun k _=>UH _
theorem zv9(X:List (List Nat)):LV X []=[List.range X.length]:=by
 unfold LV
 rw[← Jv X];rfl
noncomputable def LVp(X:List (List Nat))(q:List Nat):List (List Nat):=(List.range q.length).map fun i=>yz X (q.take i)
theorem j5(X:List (List Nat))(q:List Nat):LV X q=LVp X q++[yz X q]:=by
 unfold LV LVp
 rw[List.range_succ,List.map_append,List.map_singleton,List.take_length]
theorem zb4(X:List (List Nat))(q:List Nat)(c:Nat):LVp X (q++[c])=LV X q:=by
 unfold LV LVp
 rw[List.length_append,List.length_singleton]
 refine List.map_congr_left fun i hi=>?_
 rw[List.take_append_of_le_length (by have:=List.mem_range.mp hi;lia)]
theorem GW(X:List (List Nat))(q:List Nat)(c:Nat):LV X (q++[c])=LV X q++[yz X (q++[c])]:=by rw[j5,zb4]
theorem MQ(X:List (List Nat))(q:List Nat)(c:Nat):yz X (q++[c])=(yz X q).filter fun k=>xa (q++[c]) (X.getD k []):=by
 unfold yz
 rw[List.filter_filter]
 refine List.filter_congr fun k _=>?_
 cases z:xa (q++[c]) (X.getD k []) with
 |false=>rfl
 |true=>rw[UG q [c] _ z];rfl
theorem Jw(X:List (List Nat))(x q:List Nat):yz (X++[x]) q=yz X q++if xa q x=true then [X.length] else []:=by
 unfold yz
 rw[List.length_append,List.length_singleton,List.range_succ,List.filter_append]
 congr 1
 ·refine List.filter_congr fun k hk=>?_
  have:=List.mem_range.mp hk
  simp[List.getD_eq_getElem?_getD,List.getElem?_append_left this]
 ·have e:(X++[x]).getD X.length []=x:=by simp
  rw[List.filter_cons,e,List.filter_nil]
theorem Um{X:List (List Nat)}{q:List Nat}{k:Nat}(h:k∈yz X q):k<X.length:=List.mem_range.mp (List.mem_filter.mp h).1
theorem je(X:List (List Nat))(q:List Nat):(yz X q).length≤X.length:=by
 unfold yz
 have:=List.length_filter_le (fun k=>xa q (X.getD k [])) (List.range X.length)
 simpa using this
theorem GF(X:List (List Nat))(q:List Nat):(yz X q).Nodup:=List.Pairwise.filter _ List.nodup_range
noncomputable abbrev ntl(l:List Nat):List D:=l.map fun (k:Nat)=>D.int k
noncomputable abbrev lvD(L:List (List Nat)):D:=.lst ((L.map ntl).map D.lst)
noncomputable def SK(X:List (List Nat))(q:List Nat)(L:List (List Nat))(n:Int):Fs:=[("names", .lst (X.map tx)),("query", tx q),("levels", lvD L),("looks", .int n)]
theorem zl0{X:List (List Nat)}{q:List Nat}{L:List (List Nat)}{n:Int}:xX "names" (SK X q L n)=some (.lst (X.map tx)):=rfl
theorem Uy{X:List (List Nat)}{q:List Nat}{L:List (List Nat)}{n:Int}:xX "query" (SK X q L n)=some (tx q):=rfl
theorem Wv{X:List (List Nat)}{q:List Nat}{L:List (List Nat)}{n:Int}:xX "levels" (SK X q L n)=some (lvD L):=rfl
theorem zv8{X:List (List Nat)}{q:List Nat}{L:List (List Nat)}{n:Int}:xX "looks" (SK X q L n)=some (.int n):=rfl
theorem SK_pn{X X':List (List Nat)}{q:List Nat}{L:List (List Nat)}{n:Int}:xH "names" (.lst (X'.map tx)) (SK X q L n)=SK X' q L n:=rfl
theorem zm9{X:List (List Nat)}{q q':List Nat}{L:List (List Nat)}{n:Int}:xH "query" (tx q') (SK X q L n)=SK X q' L n:=rfl
theorem JI{X:List (List Nat)}{q:List Nat}{L L':List (List Nat)}{n:Int}:xH "levels" (lvD L') (SK X q L n)=SK X q L' n:=rfl
theorem zn0{X:List (List Nat)}{q:List Nat}{L:List (List Nat)}{n n':Int}:xH "looks" (.int n') (SK X q L n)=SK X q L n':=rfl
theorem za8(P:List (List D))(l:List D):at2 (P++[l]) (-1)=some (P.length,l):=by
 have e:ixN (P++[l]).length (-1)=some P.length:=by
  unfold ixN
  rw[List.length_append,List.length_singleton,if_neg (by lia),if_pos (by lia)]
  congr 1;lia
 unfold at2
 rw[e]
 show((P++[l])[P.length]?).map _=_
 rw[List.getElem?_concat_length];rfl
theorem GQ{es:List (List D)}{j:Nat}{ds:List D}(h:es[j]?=some ds):at2 es (j:Int)=some (j,ds):=by
 have hj:=(List.getElem?_eq_some_iff.mp h).1
 have e:ixN es.length (j:Int)=some j:=by
  unfold ixN
  rw[if_pos (by lia),if_pos (by lia)];simp
 unfold at2
 rw[e]
 show(es[j]?).map _=_
 rw[h];rfl
theorem Vf{τ:DS}{i:Nat}{c f:Str}{fs:Fs}{es:List (List D)}(h:uz τ i c=.ok fs)(hf:xX f fs=some (.lst (es.map D.lst))):WK τ i c f=.ok es:=by
 unfold WK
 rw[h,Rs.bind_ok,hf]
 simp only[v4]
theorem Go{τ:DS}{i n:Nat}{c f:Str}{fs:Fs}{es:List (List D)}(h:τ[i]?=some (some (.obj n c fs)))(hf:xX f fs=some (.lst (es.map D.lst))):Qi τ i c f=.ok (n,fs,es):=by
 unfold Qi
 rw[V6 h,Rs.bind_ok]
 simp only[hf,v4]
theorem Vk{τ:DS}:xZ (eC (.int 1)) τ=.ok (.int (-1)):=rfl
theorem Gs{τ:DS}{i:Nat}{c f:Str}{es:List (List D)}{fi:FE}{k:Int}{p:Nat×List D}(h:WK τ i c f=.ok es)(hi:fi τ=.ok (.int k))(ha:at2 es k=some p):Vy i c f fi τ=.ok (.int p.2.length):=by
 unfold Vy
 rw[h,Rs.bind_ok,hi,Rs.bind_ok]
 simp only[ha]
theorem Lz{τ:DS}{i:Nat}{c f:Str}{es:List (List D)}{fi:FE}{k:Int}{p:Nat×List D}(h:WK τ i c f=.ok es)(hi:fi τ=.ok (.int k))(ha:at2 es k=some p):Uo i c f fi τ=.ok p.2:=by
 unfold Uo
 rw[h,Rs.bind_ok,hi,Rs.bind_ok]
 simp only[ha]
theorem LK{τ:DS}{i:Nat}{c f:Str}{es:List (List D)}{fi:FE}{k:Int}{p:Nat×List D}(h:WK τ i c f=.ok es)(hi:fi τ=.ok (.int k))(ha:at2 es k=some p):JD i c f fi τ=.ok (.lst p.2):=by
 unfold JD
 rw[h,Rs.bind_ok,hi,Rs.bind_ok]
 simp only[ha]
theorem GR{τ:DS}{i n:Nat}{c f:Str}{fs:Fs}{es:List (List D)}{fi fe:FE}{j:Nat}{ds:List D}{d:D}(h:τ[i]?=some (some (.obj n c fs)))(hf:xX f fs=some (.lst (es.map D.lst)))(hi:fi τ=.ok (.int ((j:Nat):Int)))(hj:es[j]?=some ds)(he:fe τ=.ok d)(hl:ds.length≤1000) :
  XB i c f fi fe τ=.nx (τ.set i (some (.obj n c (xH f (.lst ((es.set j (ds++[d])).map D.lst)) fs)))):=by
 unfold XB
 rw[Go h hf,Fl.of_ok,hi,Fl.of_ok]
 unfold app2
 simp only[GQ hj]
 rw[he,Fl.of_ok]
 exact if_pos (by rw[zK];show ds.length<_;lia)
theorem zv0{τ:DS}{i n:Nat}{c f:Str}{fs:Fs}{fe:FE}{a b:Int}(h:τ[i]?=some (some (.obj n c fs)))(hf:xX f fs=some (.int a))(he:fe τ=.ok (.int b))(hl:fs.length<1000):W8 i c f fe τ=.nx (τ.set i (some (.obj n c (xH f (.int (a+b)) fs)))):=by
 unfold W8
 rw[V6 h,Fl.of_ok]
 simp only[hf]
 rw[he,Fl.of_ok]
 exact if_pos hl
theorem zg4{τ:DS}{i n:Nat}{c f:Str}{fs:Fs}{ff:FA}{ds:List D}(he:ff τ=.ok ds)(h:τ[i]?=some (some (.obj n c fs)))(hl:fs.length<1000):QU i c f ff τ=.nx (τ.set i (some (.obj n c (xH f (.lst [.lst ds]) fs)))):=by
 unfold QU
 rw[he,Fl.of_ok,V6 h,Fl.of_ok]
 exact if_pos hl
theorem zd9{τ:DS}{i n:Nat}{c f:Str}{fs:Fs}{es:List (List D)}(h:τ[i]?=some (some (.obj n c fs)))(hf:xX f fs=some (.lst (es.map D.lst)))(hn:es≠[]):QT i c f τ=.nx (τ.set i (some (.obj n c (xH f (.lst (es.dropLast.map D.lst)) fs)))):=by
 unfold QT
 rw[Go h hf,Fl.of_ok]
 exact if_neg hn
theorem GI:("" : Str)=⟨([]:List Nat).toArray⟩:=by decide +kernel
theorem LI(X:List (List Nat))(hl:X.length≤1000):yi [] [.lst (X.map tx)]=.ok (.non,SK X [] [List.range X.length] 0):=by
 have st:wH (.obj 1 "Seeker" []) 0 2 [.lst (X.map tx)]=[some (.obj 1 "Seeker" []),some (.val (.lst (X.map tx)))]:=rfl
 have h1:zs2 (ze 1) [some (.obj 1 "Seeker" []),some (.val (.lst (X.map tx)))]=.ok (X.map tx):=rfl
 have h3:uq (vi (za (yd yr (za (ze 1) zi)) zi)) [some (.obj 1 "Seeker" [("names", .lst (X.map tx)),("query", tx [])]),some (.val (.lst (X.map tx)))]=.ok (ntl (List.range X.length)):=by
  refine zs1 ?_ (by simp;lia)
  rw[Zo (n:=X.length) (uC (zo rfl) (by rw[v5,List.length_map])) hl,Xf]
 unfold yi ZO uv
 rw[st,zX (zc8 (fs:=[]) h1 rfl (by decide))]
 show flM 0 "Seeker" (zI _ _ [some (.obj 1 "Seeker" [("names", .lst (X.map tx))]),some (.val (.lst (X.map tx)))])=_
 rw[zX (VO (d:=tx []) (by rw[yM,GI]) rfl (by show 1<1000;decide))]
 show flM 0 "Seeker" (zI _ _ [some (.obj 1 "Seeker" [("names", .lst (X.map tx)),("query", tx [])]),some (.val (.lst (X.map tx)))])=_
 rw[zX (zg4 h3 rfl (by show 2<1000;decide))]
 show flM 0 "Seeker" (sAt _ _ _ _ [some (.obj 1 "Seeker" [("names", .lst (X.map tx)),("query", tx []),("levels", .lst [.lst (ntl (List.range X.length))])]),some (.val (.lst (X.map tx)))])=_
 rw[VO (d:=.int 0) rfl rfl (by show 3<1000;decide)]
 rfl
theorem M5(X:List (List Nat))(q:List Nat)(L:List (List Nat))(n:Int):xG (SK X q L n) []=.ok (tx q):=by
 have st:wH (.obr "Seeker" (SK X q L n)) 0 1 []=[some (.obr "Seeker" (SK X q L n))]:=rfl
 unfold xG ZN jN
 rw[st,Zp (Zj (WJ rfl) Uy)]
 rfl
theorem YG(X:List (List Nat))(q:List Nat)(L:List (List Nat))(n:Int):yc (SK X q L n) []=.ok (.int n):=by
 have st:wH (.obr "Seeker" (SK X q L n)) 0 1 []=[some (.obr "Seeker" (SK X q L n))]:=rfl
 unfold yc ZN jp
 rw[st,Zp (Zj (WJ rfl) zv8)]
 rfl
theorem Z3(P:List (List Nat))(l:List Nat):at2 ((P++[l]).map ntl) (-1)=some (P.length,ntl l):=by
 rw[List.map_append,List.map_singleton,za8,List.length_map]
theorem Wi(X:List (List Nat))(q:List Nat)(P:List (List Nat))(l:List Nat)(n:Int):zJ (SK X q (P++[l]) n) []=.ok (nts l):=by
 have st:wH (.obr "Seeker" (SK X q (P++[l]) n)) 0 1 []=[some (.obr "Seeker" (SK X q (P++[l]) n))]:=rfl
 have e:=Lz (i:=0) (c := "Seeker") (f := "levels") (fi:=xZ (eC (.int 1))) (τ:=[some (.obr "Seeker" (SK X q (P++[l]) n))]) (Vf (WJ rfl) Wv) Vk (Z3 P l)
 unfold zJ ZN uT
 rw[st,Zp (d:=nts l) (by simp only[e,Rs.bind_ok])]
 rfl
theorem zj0(X:List (List Nat))(q l:List Nat)(hX:∀x∈X,x.length≤1000)(nd:l.Nodup)(hl:l.length<64)(lt:∀k∈l,k<X.length):zb3 X (uP X q l):=by
 have s:=jO X q l
 refine⟨?_,s.nodup nd,fun r hr=>?_,hX⟩
 ·have:=s.length_le
  rw[List.length_map] at this
  lia
 ·exact lt _ (s.mem (List.mem_map.mpr ⟨r,hr,rfl⟩))
theorem Vh:∀rs:List Rw,noLs (rs.map yC)=true:=by
 intro l_
 induction l_ with
 |nil=>
  simp[noLs]
 |cons r rs ih_=>
  rw[List.map_cons,noLs,ih_]
  simp[yC,noL,noLs]
noncomputable def U8(X:List (List Nat))(q l:List Nat)(many:Nat):List Rw:=(wj (vD X) (uP X q l)).take many
theorem Lh(X:List (List Nat))(q:List Nat)(P:List (List Nat))(l:List Nat)(n:Int)(many:Nat)(hq:q.length≤1000)(hX:∀x∈X,x.length≤1000)(ha:∀c∈q,c<128)(nd:l.Nodup)(hl:l.length<64)(lt:∀k∈l,k<X.length) :
  yP (SK X q (P++[l]) n) [.int (many:Int)]=.ok (.lst ((U8 X q l many).map yC)):=by
 have st:wH (.obr "Seeker" (SK X q (P++[l]) n)) 0 2 [.int (many:Int)]=[some (.obr "Seeker" (SK X q (P++[l]) n)),some (.val (.int (many:Int)))]:=rfl
 have ho:uz [some (.obr "Seeker" (SK X q (P++[l]) n)),some (.val (.int (many:Int)))] 0 "Seeker" = .ok (SK X q (P++[l]) n):=WJ rfl
 have o1:JB 0 "Seeker" "names" [some (.obr "Seeker" (SK X q (P++[l]) n)),some (.val (.int (many:Int)))]=.ok (.lst (X.map tx)):=by
  unfold JB
  rw[T7 ho zl0];rfl
 have o2:zv yb (za (JB 0 "Seeker" "names") (za (eAt 0 "Seeker" "query") (za (JD 0 "Seeker" "levels" (xZ (eC (.int 1)))) zi))) [some (.obr "Seeker" (SK X q (P++[l]) n)),some (.val (.int (many:Int)))]=.ok (.lst ((uP X q l).map yC)):=
  ur o1 (Zj ho Uy) (LK (Vf ho Wv) Vk (Z3 P l)) (GE X q l hq hX ha lt (by lia))
 have e:Up 0 "Seeker" xh (za (JB 0 "Seeker" "names") (za (zv yb (za (JB 0 "Seeker" "names") (za (eAt 0 "Seeker" "query") (za (JD 0 "Seeker" "levels" (xZ (eC (.int 1)))) zi)))) (za (ze 1) zi))) [some (.obr "Seeker" (SK X q (P++[l]) n)),some (.val (.int (many:Int)))]=.ok ((U8 X q l many).map yC):=by
  unfold Up
  rw[ho,Rs.bind_ok,zA,o1,Rs.bind_ok,zA,o2,Rs.bind_ok,Wu (zo rfl),Rs.bind_ok,Rs.bind_ok,Rs.bind_ok]
  simp only[Vw X _ many (zj0 X q l hX nd hl lt)]
  exact if_pos (Vh _)
 unfold yP ZN Ym
 rw[st,Zp (d:=.lst ((U8 X q l many).map yC)) (by simp only[e,Rs.bind_ok])]
 rfl
theorem zd4:∀c∈QS,(97≤c∧c≤122)∨(65≤c∧c≤90)∨(48≤c∧c≤57):=by decide
theorem zc5(c:Nat)(h:c∈QS):y9 [zH c]=.ok (.bl true):=by
 have st:z0 1 [zH c]=[some (.val (zH c))]:=rfl
 unfold y9 jm
 rw[yx,st]
 simp only[ye,Qu,yn,zM,yM,List.getElem?_cons_zero,zE,Rs.bind_ok,zH,vN,YY,wU,uF,uO,Ya]
 rcases zd4 c h with z|z|z
 ·simp[z]
 ·by_cases y:97≤c∧c≤122
  ·simp[y]
  ·simp[y,z]
 ·have y1:¬ (97≤c∧c≤122):=by lia
  have y2:¬ (65≤c∧c≤90):=by lia
  simp[y1,y2,z]
theorem ME(X:List (List Nat))(q:List Nat)(P:List (List Nat))(l:List Nat)(n:Int)(c:Nat)(hX:∀x∈X,x.length≤1000)(hq:q.length<8)(ha:∀c∈q,c∈QS)(hc:c∈QS)(lt:∀k∈l,k<X.length)(hl:l.length≤1000)(hP:P.length≤1000) :
  zQ (SK X q (P++[l]) n) [zH c]=.ok (.int (((l.filter fun k=>xa (q++[c]) (X.getD k [])).length:Nat):Int),SK X (q++[c]) ((P++[l])++[l.filter fun k=>xa (q++[c]) (X.getD k [])]) (n+(l.length:Int))):=by
 have st:wH (.obj 1 "Seeker" (SK X q (P++[l]) n)) 0 3 [zH c]=[some (.obj 1 "Seeker" (SK X q (P++[l]) n)),some (.val (zH c)),none]:=rfl
 have t1:Ys (FD.tB (eOp neD (yd yr (za (ze 1) zi)) (eC (.int 1)))) (wJ (wB (zv y9 (za (ze 1) zi)))) [some (.obj 1 "Seeker" (SK X q (P++[l]) n)),some (.val (zH c)),none]=.ok false:=
  T9 (vy (op2 (uC (zo rfl) (wb [c] (by simp))) rfl rfl)) (WY (tru_ok (za2 (zo rfl) (zc5 c hc))))
 have t2:FD.tB (eOp geD (yd yr (za (eAt 0 "Seeker" "query") zi)) (eC (.int 8))) [some (.obj 1 "Seeker" (SK X q (P++[l]) n)),some (.val (zH c)),none]=.ok false:=
  vy (op2 (uC (Zj (ub rfl) Uy) (wb q (by lia))) rfl (by rw[geD_i,decide_eq_false (by lia)]))
 have h3:eOp zV (eAt 0 "Seeker" "query") (ze 1) [some (.obj 1 "Seeker" (SK X q (P++[l]) n)),some (.val (zH c)),none]=.ok (tx (q++[c])):=
  op2 (Zj (ub rfl) Uy) (zo rfl) (zb0 q [c] (by lia) (by simp))
 have sa:∀d∈q++[c],d<128:=fun d hd=>by
  rcases List.mem_append.mp hd with z|z
  ·exact Q0 d (ha d z)
  ·obtain rfl:d=c:=by simpa using z
   exact Q0 d hc
 generalize hg:l.filter (fun k=>xa (q++[c]) (X.getD k []))=g
 have hgl:g.length≤1000:=by
  have:=List.length_filter_le (fun k=>xa (q++[c]) (X.getD k [])) l
  rw[hg] at this;lia
 have cf:=wA (set:=gNm 0) (ft:=wB (zv wx (za (eAt 1 "Seeker" "query") (za (Qw 1 "Seeker" "names" (ze 0)) zi)))) (fe:=ze 0) (τ:=[none,some (.obr "Seeker" (SK X (q++[c]) (P++[l]) (n+(l.length:Int))))]) (fun (k:Nat)=>D.int k) (fun (k:Nat)=>D.int k) (fun k=>xa (q++[c]) (X.getD k [])) l fun k hk=>by
  have hk:=lt k hk
  refine Y12 ([some (.val (.int (k:Int))),some (.obr "Seeker" (SK X (q++[c]) (P++[l]) (n+(l.length:Int))))]) rfl ?_ rfl
  refine tru_ok (Zd (Zj (WJ rfl) Uy) (ix_A (T7 (WJ rfl) zl0) (zo rfl) (d:=tx (X.getD k [])) (Uu ?_)) (Ul _ _ (by simp;lia) (hX _ (getD_mem hk)) sa))
  rw[List.getElem?_map,List.getElem?_eq_getElem hk]
  simp[hk]
 rw[hg] at cf
 have la:Vr 0 "Seeker" "levels" [some (.obr "Seeker" (SK X (q++[c]) (P++[l]) (n+(l.length:Int)))),some (.val (zH c)),none]=.ok (ntl l):=by
  unfold Vr
  rw[Vf (es:=(P++[l]).map ntl) (WJ rfl) Wv,Rs.bind_ok,List.length_map,List.length_append,List.length_singleton,Nat.add_sub_cancel,List.getElem?_map,List.getElem?_concat_length]
  rfl
 have ec:=vS (k:=1) (idx:=[0]) (τ:=[some (.obr "Seeker" (SK X (q++[c]) (P++[l]) (n+(l.length:Int)))),some (.val (zH c)),none]) la cf (by rw[List.length_map];exact hgl)
 have hlt:ZM 0 2 "Seeker" "levels" "looks" (xZ (eC (.int 1))) (fun τ=>(xK 1 [0] (Vr 0 "Seeker" "levels") (gNm 0) (wB (zv wx (za (eAt 1 "Seeker" "query") (za (Qw 1 "Seeker" "names" (ze 0)) zi)))) (ze 0)) (Mv 0 τ)) (ZL (Vy 0 "Seeker" "levels" (xZ (eC (.int 1))))) [some (.obj 1 "Seeker" (SK X (q++[c]) (P++[l]) n)),some (.val (zH c)),none]
   = .ro (.int (g.length:Nat)) [some (.obj 1 "Seeker" (SK X (q++[c]) ((P++[l])++[g]) (n+(l.length:Int)))),some (.val (zH c)),none]:=by
  unfold ZM
  rw[Go (es:=(P++[l]).map ntl) (n:=1) rfl Wv,Fl.of_ok,Vk,Fl.of_ok]
  unfold zs4
  simp only[Z3]
  rw[if_pos (by simp)]
  unfold zs3
  simp only[zv8,List.length_map]
  rw[if_pos ⟨by show 4<1000;decide,by rw[zK];simp;lia,by show 2<3;decide⟩]
  show Fl.of ((xK 1 [0] (Vr 0 "Seeker" "levels") (gNm 0) (wB (zv wx (za (eAt 1 "Seeker" "query") (za (Qw 1 "Seeker" "names" (ze 0)) zi)))) (ze 0)) [some (.obr "Seeker" (SK X (q++[c]) (P++[l]) (n+(l.length:Int)))),some (.val (zH c)),none]) _=_
  rw[ec,Fl.of_ok]
  have e2:((P++[l]).map ntl++[ntl g]).map D.lst=(((P++[l])++[g]).map ntl).map D.lst:=by rw[List.map_append (f:=ntl) (l₁:=P++[l])];rfl
  rw[e2,zn0,JI]
  show ZL _ [some (.obj 1 "Seeker" (SK X (q++[c]) ((P++[l])++[g]) (n+(l.length:Int)))),some (.val (zH c)),none]=_
  rw[VU (d:=.int (g.length:Nat)) (by rw[Gs (Vf (ub rfl) Wv) Vk (Z3 (P++[l]) g)];simp)]
 unfold zQ ZO jq
 rw[st,zX (Wd t1),zX (Wd t2),zX (VO h3 rfl (by show 4<1000;decide)),zm9]
 show flM 0 "Seeker" (ZM _ _ _ _ _ _ _ _ [some (.obj 1 "Seeker" (SK X (q++[c]) (P++[l]) n)),some (.val (zH c)),none])=_
 rw[hlt]
 rfl
theorem JW(x:List Nat)(c:Nat):Txt.slice (⟨(x++[c]).toArray⟩:Str) none (some (-1))=⟨x.toArray⟩:=by
 have:=eq_of_beq (slice_closes_to_neg (x:=⟨(x++[c]).toArray⟩) (j:=-1) (k:=_) (by lia) (by rw[vI];simp;lia) rfl)
 rw[this,vI]
 congr 2
 show List.take _ (List.drop 0 (x++[c]))=_
 rw[List.drop_zero,List.length_append,List.length_singleton]
 rw[show((-1:Int)+((x.length+1:Nat):Int)-0).toNat=x.length by lia]
 simp
theorem zk2(X:List (List Nat))(q:List Nat)(c:Nat)(P:List (List Nat))(l g:List Nat)(n:Int)(hq:q.length≤100) :
  xB (SK X (q++[c]) ((P++[l])++[g]) n) []=.ok (.int (l.length:Nat),SK X q (P++[l]) n):=by
 have st:wH (.obj 1 "Seeker" (SK X (q++[c]) ((P++[l])++[g]) n)) 0 1 []=[some (.obj 1 "Seeker" (SK X (q++[c]) ((P++[l])++[g]) n))]:=rfl
 have t1:FD.tB (eOp eqD (yd yr (za (eAt 0 "Seeker" "query") zi)) (eC (.int 0))) [some (.obj 1 "Seeker" (SK X (q++[c]) ((P++[l])++[g]) n))]=.ok false:=by
  refine vy (op2 (uC (Zj (ub rfl) Uy) (wb (q++[c]) (by simp;lia))) rfl ?_)
  rw[uR]
  congr 2
  rw[beq_eq_false_iff_ne]
  simp;lia
 have h2:eSl (eAt 0 "Seeker" "query") vK (wt (xZ (eC (.int 1)))) [some (.obj 1 "Seeker" (SK X (q++[c]) ((P++[l])++[g]) n))]=.ok (tx q):=by
  refine QP (Zj (ub rfl) Uy) rfl (Gf Vk) ?_
  show(if (⟨(q++[c]).toArray⟩:Str).length≤sizeLine then Rs.ok (D.str (Txt.slice ⟨(q++[c]).toArray⟩ none (some (-1)))) else .no)=_
  rw[if_pos (by rw[vI,zK];simp;lia),JW]
 have hp:(((P++[l])++[g]).map ntl).dropLast.map D.lst=((P++[l]).map ntl).map D.lst:=by
  rw[List.map_append (f:=ntl) (l₁:=P++[l]),List.map_singleton,List.dropLast_concat]
 unfold xB ZO Zi
 rw[st,zX (Wd t1),zX (VO h2 rfl (by show 4<1000;decide)),zm9]
 show flM 0 "Seeker" (zI _ _ [some (.obj 1 "Seeker" (SK X q ((P++[l])++[g]) n))])=_
 rw[zX (zd9 (n:=1) (es:=((P++[l])++[g]).map ntl) rfl Wv (by simp)),hp,JI]
 show flM 0 "Seeker" (ZL _ [some (.obj 1 "Seeker" (SK X q (P++[l]) n))])=_
 rw[VU (d:=.int (l.length:Nat)) (by rw[Gs (Vf (ub rfl) Wv) Vk (Z3 P l)];simp)]
 rfl
noncomputable def adL(X:List (List Nat))(q:List Nat)(j:Nat):List (List Nat):=(List.range (q.length+1)).map fun i=>yz X (q.take i)++if i<j then [X.length] else []
theorem adL_0(X:List (List Nat))(q:List Nat):adL X q 0=LV X q:=by
 unfold adL LV
 refine List.map_congr_left fun i _=>?_
 rw[if_neg (by lia),List.append_nil]
theorem GU(X:List (List Nat))(q:List Nat)(j:Nat)(h:j≤q.length):((adL X q j).map ntl)[j]?=some (ntl (yz X (q.take j))):=by
 unfold adL
 rw[List.map_map,List.getElem?_map,List.getElem?_range (by lia)]
 simp
theorem GT(X:List (List Nat))(q:List Nat)(j:Nat)(h:j≤q.length):((adL X q j).map ntl).set j (ntl (yz X (q.take j))++[.int (X.length:Int)])=(adL X q (j+1)).map ntl:=by
 have e:ntl (yz X (q.take j))++[.int (X.length:Int)]=ntl (yz X (q.take j)++[X.length]):=by simp
 rw[e,← List.map_set]
 congr 1
 unfold adL
 apply List.ext_getElem
 ·simp
 ·intro i h1 h2
  rw[List.getElem_set]
  split
  ·rename_i hij
   subst hij
   simp
  ·rename_i hij
   simp only[List.getElem_map,List.getElem_range]
   by_cases z:i<j
   ·rw[if_pos z,if_pos (by lia)]
   ·rw[if_neg z,if_neg (by lia)]
theorem Uw(X:List (List Nat))(x q:List Nat)(j:Nat)(h1:∀i,i<j→xa (q.take i) x=true)(h2:∀i,j≤i→i≤q.length→xa (q.take i) x=false):adL X q j=LV (X++[x]) q:=by
 unfold adL LV
 refine List.map_congr_left fun i hi=>?_
 have hi:=List.mem_range.mp hi
 rw[Jw]
 by_cases z:i<j
 ·rw[if_pos z,h1 i z,if_pos rfl]
 ·rw[if_neg z,h2 i (by lia) (by lia),if_neg (by simp)]
noncomputable def adB:FS:=(zI (W8 0 "Seeker" "looks" (eC (.int 1)))
  (zI (sIf (wJ (wB (zv wx (za (eSl (eAt 0 "Seeker" "query") vK (wt (ze 3))) (za (ze 1) zi))))) JZ yf)
  (XB 0 "Seeker" "levels" (ze 3) (ze 2))))
noncomputable def A4(X:List (List Nat))(x q:List Nat)(L:List (List Nat))(n:Int)(s:Option Sl):DS:=[some (.obj 1 "Seeker" (SK (X++[x]) q L n)),some (.val (tx x)),some (.val (.int (X.length:Int))),s]
theorem VG{q x:List Nat}{j i:Nat}(h:xa (q.take j) x=false)(hij:j≤i):xa (q.take i) x=false:=by
 cases z:xa (q.take i) x with
 |false=>rfl
 |true=>
  have:=G3 j z
  rw[List.take_take,Nat.min_eq_left hij,h] at this
  cases this
theorem zk9(X:List (List Nat))(x q:List Nat)(L:List (List Nat))(n:Int)(j:Nat)(hq:q.length≤100)(hx:x.length≤1000)(sq:∀c∈q,c<128):wJ (wB (zv wx (za (eSl (eAt 0 "Seeker" "query") vK (wt (ze 3))) (za (ze 1) zi)))) (A4 X x q L n (some (.val (.int (j:Int)))))=.ok (!xa (q.take j) x):=by
 refine WY (tru_ok (Zd (QP (Zj (ub rfl) Uy) rfl (Gf (zo rfl)) ?_) (zo rfl) (Ul (q.take j) x (by rw[List.length_take];lia) hx fun c hc=>sq c (List.mem_of_mem_take hc))))
 show(if (⟨q.toArray⟩:Str).length≤sizeLine then Rs.ok (D.str (Txt.slice ⟨q.toArray⟩ none (some (j:Int)))) else .no)=_
 rw[if_pos (by rw[vI,zK];lia),UL]
theorem GS(X:List (List Nat))(x q:List Nat)(hq:q.length≤100)(hX:X.length≤1000)(hx:x.length≤1000)(sq:∀c∈q,c<128):∀(m j:Nat) (n:Int) (s:Option Sl),j+1+m=q.length+1→(∀i,i<j+1→xa (q.take i) x=true) →
  ∃s',yO (gNm 3) adB ((List.range' (j+1) m).map fun (k:Nat)=>D.int k) (A4 X x q (adL X q (j+1)) n s)=.nx (A4 X x q (LV (X++[x]) q) (n+(((List.range' j m).filter fun i=>xa (q.take i) x).length:Nat)) s'):=by
 intro l_
 induction l_ with
 |zero=>
  rintro j n s h hs
  refine⟨s,?_⟩
  rw[Uw X x q (j+1) hs fun i h1 h2=>by lia]
  simp[yO]
 |succ m ih_=>
  rintro j n s h hs
  have a1:W8 0 "Seeker" "looks" (eC (.int 1)) (A4 X x q (adL X q (j+1)) n (some (.val (.int ((j+1:Nat):Int)))))=.nx (A4 X x q (adL X q (j+1)) (n+1) (some (.val (.int ((j+1:Nat):Int))))):=by
   unfold A4
   rw[zv0 (n:=1) (a:=n) (b:=1) rfl zv8 rfl (by show 4<1000;decide),zn0];rfl
  have t:=zk9 X x q (adL X q (j+1)) (n+1) (j+1) hq hx sq
  have cnt:(((List.range' j (m+1)).filter fun i=>xa (q.take i) x).length:Int)=1+(((List.range' (j+1) m).filter fun i=>xa (q.take i) x).length:Nat):=by
   rw[List.range'_succ,List.filter_cons,hs j (by lia),if_pos rfl,List.length_cons]
   lia
  rw[cnt]
  cases z:xa (q.take (j+1)) x with
  |false=>
   refine⟨some (.val (.int ((j+1:Nat):Int))),?_⟩
   have nil:(List.range' (j+1) m).filter (fun i=>xa (q.take i) x)=[]:=by
    rw[List.filter_eq_nil_iff]
    intro i hi
    have:=(List.mem_range'_1.mp hi).1
    rw[VG z this];simp
   rw[nil,List.length_nil]
   rw[z] at t
   have e:adB (A4 X x q (adL X q (j+1)) n (some (.val (.int ((j+1:Nat):Int)))))=.bk (A4 X x q (adL X q (j+1)) (n+1) (some (.val (.int ((j+1:Nat):Int))))):=by
    unfold adB
    rw[zX a1,zU,if_t t]
    rfl
   rw[Uw X x q (j+1) hs fun i h1 h2=>VG z h1] at e
   rw[List.range'_succ,List.map_cons,yO]
   show Fl.of (Rs.ok (A4 X x q (adL X q (j+1)) n (some (.val (.int ((j+1:Nat):Int)))))) _=_
   rw[Fl.of_ok,Uw X x q (j+1) hs fun i h1 h2=>VG z h1,e]
   simp
  |true=>
   rw[z] at t
   have hj:j+1≤q.length:=by lia
   have e:adB (A4 X x q (adL X q (j+1)) n (some (.val (.int ((j+1:Nat):Int)))))=.nx (A4 X x q (adL X q (j+1+1)) (n+1) (some (.val (.int ((j+1:Nat):Int))))):=by
    unfold adB
    rw[zX a1,zX (Wd t)]
    unfold A4
    rw[GR (n:=1) (j:=j+1) rfl Wv (zo rfl) (GU X q (j+1) hj) (zo rfl) (by rw[List.length_map];have:=je X (q.take (j+1));lia),GT X q (j+1) hj,JI]
    rfl
   obtain⟨s',ih⟩:=ih_ (j+1) (n+1) (some (.val (.int ((j+1:Nat):Int)))) (by lia) fun i hi=>by
    by_cases y:i<j+1
    ·exact hs i y
    ·rw[show i=j+1 by lia];exact z
   refine⟨s',?_⟩
   rw[List.range'_succ,List.map_cons,yO]
   show Fl.of (Rs.ok (A4 X x q (adL X q (j+1)) n (some (.val (.int ((j+1:Nat):Int)))))) _=_
   rw[Fl.of_ok,e]
   simp only
   rw[ih,← Int.add_assoc]
noncomputable def adN(x q:List Nat):Nat:=((List.range q.length).filter fun i=>xa (q.take i) x).length
theorem rg2'{fa fb:FE}{τ:DS}{i n:Nat}(h1:fa τ=.ok (.int (i:Int)))(h2:fb τ=.ok (.int ((i+n:Nat):Int)))(hn:i+n≤2000):MM (za fa (za fb zi)) τ=.ok ((List.range' i n).map fun (k:Nat)=>D.int k):=by
 unfold MM
 rw[zA,h1,Rs.bind_ok,zA,h2,Rs.bind_ok,zS,Rs.bind_ok,Rs.bind_ok,Rs.bind_ok]
 simp only[WP]
 rw[if_pos ⟨⟨by lia,by lia⟩,by lia,by lia⟩]
 unfold jr
 have:(((i+n:Nat):Int)-(i:Int)).toNat=n:=by lia
 rw[this,List.range'_eq_map_range,List.map_map]
 congr 1
theorem zv4(X:List (List Nat))(q:List Nat)(n:Int)(x:List Nat)(hq:q.length≤100)(hX:X.length≤1000)(hx:x.length≤1000)(sq:∀c∈q,c<128) :
  xv (SK X q (LV X q) n) [tx x]=.ok (.int (X.length:Nat),SK (X++[x]) q (LV (X++[x]) q) (n+(adN x q:Nat))):=by
 have st:wH (.obj 1 "Seeker" (SK X q (LV X q) n)) 0 4 [tx x]=[some (.obj 1 "Seeker" (SK X q (LV X q) n)),some (.val (tx x)),none,none]:=rfl
 have h1:JC 0 "Seeker" "names" [some (.obj 1 "Seeker" (SK X q (LV X q) n)),some (.val (tx x)),none,none]=.ok (.int (X.length:Int)):=by
  rw[len_A (T7 (ub rfl) zl0),List.length_map]
 have e2:X.map tx++[tx x]=(X++[x]).map tx:=by simp
 obtain⟨s',lp⟩:=GS X x q hq hX hx sq q.length 0 n none (by lia) fun i hi=>by
  obtain rfl:i=0:=by lia
  rw[List.take_zero];exact UH x
 have a2:UP 0 "Seeker" "names" (ze 1) [some (.obj 1 "Seeker" (SK X q (LV X q) n)),some (.val (tx x)),some (.val (.int (X.length:Int))),none]=.nx (A4 X x q (LV X q) n none):=by
  rw[zk6 (n:=1) (ds:=X.map tx) (d:=tx x) rfl zl0 (zo rfl) (by rw[List.length_map];exact hX),e2,SK_pn];rfl
 have a3:XB 0 "Seeker" "levels" (eC (.int 0)) (ze 2) (A4 X x q (LV X q) n none)=.nx (A4 X x q (adL X q 1) n none):=by
  rw[← adL_0]
  unfold A4
  rw[GR (n:=1) (j:=0) rfl Wv rfl (GU X q 0 (by lia)) (zo rfl) (by rw[List.length_map];have:=je X (q.take 0);lia),GT X q 0 (by lia),JI]
  rfl
 have r4:MM (za (eC (.int 1)) (za (eOp zV (yd yr (za (eAt 0 "Seeker" "query") zi)) (eC (.int 1))) zi)) (A4 X x q (adL X q 1) n none)=.ok ((List.range' 1 q.length).map fun (k:Nat)=>D.int k):=
  rg2' (i:=1) rfl (op2 (uC (Zj (ub rfl) Uy) (wb q (by lia))) rfl (by rw[xW];congr 2;lia)) (by lia)
 have f4:vY (MM (za (eC (.int 1)) (za (eOp zV (yd yr (za (eAt 0 "Seeker" "query") zi)) (eC (.int 1))) zi))) (gNm 3) adB (A4 X x q (adL X q 1) n none)=.nx (A4 X x q (LV (X++[x]) q) (n+(adN x q:Nat)) s'):=by
  rw[wZ,r4,Fl.of_ok]
  unfold adN
  rw[List.range_eq_range']
  exact lp
 unfold xv ZO Yn
 rw[st,zX (vX h1)]
 simp only[List.set_cons_succ,List.set_cons_zero]
 rw[zX a2,zX a3]
 unfold adB at f4
 rw[zX f4,VU (d:=.int (X.length:Nat)) (zo rfl)]
 rfl
noncomputable def wo(h:Nat)(l:List Nat):List Nat:=l.filter fun k=>!(k==h)
theorem wo_ok(h:Nat)(l:List Nat)(hl:l.length≤1000):xU [.int (h:Int),.lst (ntl l)]=.ok (ntl (wo h l)):=by
 have st:z0 2 [.int (h:Int),.lst (ntl l)]=[some (.val (.int (h:Int))),some (.val (.lst (ntl l)))]:=rfl
 have cf:=wA (set:=gNm 0) (ft:=FD.tB (eOp neD (ze 0) (ze 1))) (fe:=ze 0) (τ:=[none,some (.val (.int (h:Int)))]) (fun (k:Nat)=>D.int k) (fun (k:Nat)=>D.int k) (fun k=>!(k==h)) l fun k _=>by
  refine Y12 ([some (.val (.int (k:Int))),some (.val (.int (h:Int)))]) rfl (vy (op2 (zo rfl) (zo rfl) ?_)) rfl
  rw[Lo]
  have:((k:Int)==(h:Int))=(k==h):=by
   rw[Bool.eq_iff_iff,beq_iff_eq,beq_iff_eq];lia
  rw[this]
 have hle:(wo h l).length≤l.length:=List.length_filter_le _ _
 have ec:=vS (k:=1) (idx:=[0]) (fi:=ve (ze 1)) (τ:=[some (.val (.int (h:Int))),some (.val (.lst (ntl l)))]) (ds:=ntl l) rfl cf (by rw[List.length_map];unfold wo at hle;lia)
 unfold xU FD.runN VD
 rw[st]
 unfold W7
 rw[ec,Fl.of_ok]
 rfl
theorem Vi:∀l:List Nat,noLs (ntl l)=true:=by
 intro l_
 induction l_ with
 |nil=>
  simp[noLs]
 |cons r rs ih_=>
  have ih:=ih_
  unfold ntl at ih ⊢
  rw[List.map_cons,noLs,ih]
  simp[noL]
theorem Jp(h:Nat):∀L:List (List Nat),(∀l∈L,l.length≤1000)→jF xU (h:Int) (L.map ntl)=some ((L.map (wo h)).map ntl):=by
 intro l_
 induction l_ with
 |nil=>
  rintro _
  exact rfl
 |cons l L ih_=>
  rintro hl
  rw[List.map_cons,jF,wo_ok h l (hl l List.mem_cons_self)]
  simp only
  rw[if_pos (Vi _),ih_ fun m hm=>hl m (List.mem_cons_of_mem _ hm)]
  rfl
theorem zi6(X:List (List Nat))(q:List Nat)(l:List Nat)(L:List (List Nat))(n:Int)(h:Nat)(hm:h∈l)(hl:∀m∈l::L,m.length≤1000)(hL:L.length≤1000) :
  x9 (SK X q (l::L) n) [.int (h:Int)]=.ok (.non,SK X q ((l::L).map (wo h)) n):=by
 have st:wH (.obj 1 "Seeker" (SK X q (l::L) n)) 0 2 [.int (h:Int)]=[some (.obj 1 "Seeker" (SK X q (l::L) n)),some (.val (.int (h:Int)))]:=rfl
 have t1:FD.tB (eLd 0 "Seeker" (eOp XY (ze 1) (JD 0 "Seeker" "levels" (eC (.int 0))))) [some (.obj 1 "Seeker" (SK X q (l::L) n)),some (.val (.int (h:Int)))]=.ok false:=by
  refine vy ?_
  unfold eLd
  rw[ub (fs:=SK X q (l::L) n) rfl,Rs.bind_ok,op2 (zo rfl) (LK (p:=(0,ntl l)) (Vf (ub rfl) Wv) (k:=0) rfl (GQ (j:=0) rfl)) (Mw h l),Rs.bind_ok,if_pos (show FD.scal (.bl _)=true from rfl)]
  have:l.contains h=true:=List.contains_iff_mem.mpr hm
  rw[this];rfl
 have h2:QV 0 1 "Seeker" "levels" xU [some (.obj 1 "Seeker" (SK X q (l::L) n)),some (.val (.int (h:Int)))]=.nx [some (.obj 1 "Seeker" (SK X q ((l::L).map (wo h)) n)),some (.val (.int (h:Int)))]:=by
  unfold QV
  rw[Go (n:=1) (es:=(l::L).map ntl) rfl Wv,Fl.of_ok]
  simp only[List.getElem?_cons_succ,List.getElem?_cons_zero]
  rw[Jp h (l::L) hl]
  simp only
  rw[if_pos ⟨by show 4<1000;decide,by rw[zK];simp;lia⟩,JI]
  rfl
 unfold x9 ZO Zh
 rw[st,zX (Wd t1),h2]
 rfl
theorem LJ(X:List (List Nat))(hl:X.length≤1000):yi [] [.lst (X.map tx)]=.ok (.non,SK X [] (LV X []) 0):=by rw[zv9];exact LI X hl
theorem zl2(X:List (List Nat))(q:List Nat):(LVp X q).length=q.length:=by unfold LVp;simp
theorem Ue(X:List (List Nat))(q:List Nat)(n:Int)(c:Nat)(hX:∀x∈X,x.length≤1000)(hXl:X.length≤1000)(hq:q.length<8)(ha:∀c∈q,c∈QS)(hc:c∈QS) :
  zQ (SK X q (LV X q) n) [zH c]=.ok (.int ((yz X (q++[c])).length:Nat),SK X (q++[c]) (LV X (q++[c])) (n+((yz X q).length:Nat))):=by
 have h:=ME X q (LVp X q) (yz X q) n c hX hq ha hc (fun k hk=>Um hk) (by have:=je X q;lia) (by rw[zl2];lia)
 rw[← j5,← MQ,← GW] at h
 exact h
theorem backL(X:List (List Nat))(q:List Nat)(c:Nat)(n:Int)(hq:q.length≤100):xB (SK X (q++[c]) (LV X (q++[c])) n) []=.ok (.int ((yz X q).length:Nat),SK X q (LV X q) n):=by
 have h:=zk2 X q c (LVp X q) (yz X q) (yz X (q++[c])) n hq
 rw[← j5,← GW] at h
 exact h
theorem Wj(X:List (List Nat))(q:List Nat)(n:Int):zJ (SK X q (LV X q) n) []=.ok (nts (yz X q)):=by rw[j5];exact Wi X q _ _ n
theorem nowL(X:List (List Nat))(q:List Nat)(n:Int)(many:Nat)(hq:q.length≤1000)(hX:∀x∈X,x.length≤1000)(hXl:X.length<64)(ha:∀c∈q,c<128):yP (SK X q (LV X q) n) [.int (many:Int)]=.ok (.lst ((U8 X q (yz X q) many).map yC)):=by
 rw[j5]
 exact Lh X q _ _ n many hq hX ha (GF X q) (by have:=je X q;lia) fun k hk=>Um hk
theorem tx_ne(q:List Nat):neD (tx q) (tx q)=.ok (.bl false):=by
 show neD (.str _) (.str _)=_
 rw[neD_s]
 simp
noncomputable abbrev SL(X:List (List Nat))(q:List Nat)(n:Int):Fs:=SK X q (LV X q) n
theorem Ug(i:Int):neD (.int i) (.int i)=.ok (.bl false):=by rw[Lo];simp
theorem YZ{α β:Type}(p:α→Bool)(F:α→List β):∀(l:List α),(∀i∈l,p i=false→F i=[])→(l.filter p).flatMap F=l.flatMap F:=by
 intro l_
 induction l_ with
 |nil=>
  rintro _
  exact rfl
 |cons i l ih_=>
  rintro h
  have ih:=ih_ fun j hj=>h j (List.mem_cons_of_mem _ hj)
  rw[List.filter_cons,List.flatMap_cons]
  cases z:p i with
  |true=>simp only[if_true];rw[List.flatMap_cons,ih]
  |false=>simp only[Bool.false_eq_true,if_false];rw[ih,h i (List.mem_cons_self ..) z,List.nil_append]
theorem Wk(X:List (List Nat))(q:List Nat):uP X q (yz X q)=j8 X q:=by
 unfold yz j8 uP
 refine YZ _ _ _ fun i _ hp=>?_
 unfold fr1
 rw[QB q _ hp];rfl
theorem za6{q x:List Nat}(h:xa q x=true):∃t,jl q x=some t:=by
 refine X21 (QA q x _ (MF q x h)) fun v l e _=>?_
 exact⟨_,e⟩
theorem jH(X:List (List Nat))(q:List Nat)(p:Nat→Bool):∀l:List Nat,uP X q (l.filter p)=(uP X q l).filter fun r=>p r.2:=by
 intro l_
 induction l_ with
 |nil=>
  exact rfl
 |cons i l ih_=>
  have ih:=ih_
  unfold uP at ih ⊢
  rw[List.flatMap_cons,List.filter_append,← ih,List.filter_cons]
  have e:((fr1 X q i).toList.filter fun r=>p r.2)=if p i=true then (fr1 X q i).toList else []:=by
   unfold fr1
   cases jl q (X.getD i []) with
   |none=>simp
   |some t=>cases z:p i <;> simp[z]
  rw[e]
  by_cases z:p i=true
  ·rw[if_pos z,if_pos z,List.flatMap_cons]
  ·rw[if_neg z,if_neg z,List.nil_append]
theorem Vv(X:List (List Nat))(q:List Nat):∀l:List Nat,(∀k∈l,xa q (X.getD k [])=true)→(uP X q l).map (·.2)=l:=by
 intro l_
 induction l_ with
 |nil=>
  rintro _
  exact rfl
 |cons i l ih_=>
  rintro h
  have ih:=ih_ fun k hk=>h k (List.mem_cons_of_mem _ hk)
  obtain⟨t,ht⟩:=za6 (h i List.mem_cons_self)
  unfold uP at ih ⊢
  rw[List.flatMap_cons,List.map_append,ih]
  unfold fr1
  rw[ht];rfl
theorem Gu(X:List (List Nat))(rs:List Rw)(nd:(rs.map (·.2)).Nodup):(rs.map (vD X)).Nodup:=YE (Jg X) rs nd
theorem JO(X:List (List Nat))(rs:List Rw)(nd:(rs.map (·.2)).Nodup)(p:Rw→Bool):wj (vD X) (rs.filter p)=(wj (vD X) rs).filter p:=by
 refine(JP (vD X) ?_ ?_ ?_).symm
 ·exact(uU (vD X) rs).filter p
 ·exact(W5 (vD X) rs (Gu X rs nd)).filter p
 ·exact((List.filter_sublist).map (vD X)).nodup (Gu X rs nd)
theorem zv3(X:List (List Nat))(q:List Nat):((j8 X q).map (·.2)).Nodup:=(jO X q (List.range X.length)).nodup List.nodup_range
theorem VI(X:List (List Nat))(q:List Nat):(wj (vD X) (j8 X q)).length≤X.length:=by
 have:=(jO X q (List.range X.length)).length_le
 rw[(uU (vD X) (j8 X q)).length_eq]
 simpa[j8] using this
noncomputable def Z7(X:List (List Nat))(q:List Nat)(h:Nat):List Rw:=(wj (vD X) (j8 X q)).filter fun r=>!(r.2==h)
theorem Xp(X:List (List Nat))(q:List Nat)(h:Nat):(Z7 X q h).length≤X.length:=Nat.le_trans (List.length_filter_le _ _) (VI X q)
theorem zg2(X:List (List Nat))(q:List Nat)(many:Nat)(hl:X.length≤many):U8 X q (yz X q) many=wj (vD X) (j8 X q):=by
 unfold U8
 rw[Wk,List.take_of_length_le (by have:=VI X q;lia)]
theorem zg1(X:List (List Nat))(q:List Nat)(h many:Nat)(hl:X.length≤many):U8 X q (wo h (yz X q)) many=Z7 X q h:=by
 have e:wj (vD X) (uP X q (wo h (yz X q)))=Z7 X q h:=by
  unfold wo Z7
  rw[jH X q (fun k=>!(k==h)),Wk,JO X _ (zv3 X q)]
 unfold U8
 rw[e,List.take_of_length_le (by have:=Xp X q h;lia)]
theorem LP(X:List (List Nat))(q:List Nat)(h:Nat):((Z7 X q h).map (·.2)).Perm (wo h (yz X q)):=by
 have e:(uP X q (wo h (yz X q))).map (·.2)=wo h (yz X q):=Vv X q _ fun k hk=>by
  have:=(List.mem_filter.mp (List.mem_filter.mp hk).1).2
  simpa using this
 have p:(Z7 X q h).Perm (uP X q (wo h (yz X q))):=by
  unfold wo Z7
  rw[jH X q (fun k=>!(k==h)),Wk]
  exact(uU _ _).filter _
 have:=p.map (·.2)
 rw[e] at this
 exact this
theorem zc1{l m:List Int}(p:l.Perm m)(h:m.Pairwise (·≤·)):ZI l=m:=VF (VH l) h ((jR l).trans p)
theorem zi7(X:List (List Nat))(q:List Nat)(h:Nat):ZI ((Z7 X q h).map fun r=>((r.2:Nat):Int))=(wo h (yz X q)).map fun (k:Nat)=>(k:Int):=by
 have p:=(LP X q h).map fun (k:Nat)=>(k:Int)
 rw[List.map_map] at p
 refine zc1 p ?_
 rw[List.pairwise_map]
 have:(wo h (yz X q)).Pairwise (· < ·):=List.Pairwise.filter _ (List.Pairwise.filter _ List.pairwise_lt_range)
 exact this.imp fun h=>by lia
theorem zt7(l:List Int):Uh (l.map D.int)=some l:=by
 induction l with
 |nil=>rfl
 |cons a l ih=>rw[List.map_cons,Uh,ih];rfl
theorem zn8(l:List Int)(h:l.length<64):G4 [.lst (l.map D.int)]=.ok (.lst ((ZI l).map D.int)):=by
 show(match Uh (l.map D.int) with|some ns=>if ns.length<64 then Rs.ok (D.lst ((ZI ns).map D.int)) else Rs.no|none=>Rs.no)=_
 rw[zt7]
 dsimp only
 rw[if_pos h]
noncomputable def yJ(X:List (List Nat))(q:List Nat):Nat:=((List.range q.length).map fun i=>(yz X (q.take i)).length).sum
theorem JE(X:List (List Nat))(q:List Nat)(c:Nat):yJ X (q++[c])=yJ X q+(yz X q).length:=by
 unfold yJ
 rw[List.length_append,List.length_singleton,List.range_succ,List.map_append,List.sum_append,List.map_singleton,List.sum_singleton,List.take_left]
 congr 2
 refine List.map_congr_left fun i hi=>?_
 rw[List.take_append_of_le_length (by have:=List.mem_range.mp hi;lia)]
theorem zu6(q:List Nat):yJ [] q=0:=by
 unfold yJ
 induction List.range q.length with
 |nil=>rfl
 |cons a l ih=>rw[List.map_cons,List.sum_cons,ih];rfl
theorem zj4(X:List (List Nat))(x q:List Nat):yJ (X++[x]) q=yJ X q+adN x q:=by
 unfold yJ adN
 induction List.range q.length with
 |nil=>rfl
 |cons a l ih=>
  rw[List.map_cons,List.sum_cons,ih,List.map_cons,List.sum_cons,Jw,List.length_append,List.filter_cons]
  by_cases z:xa (q.take a) x=true
  ·rw[if_pos z,if_pos z,List.length_singleton,List.length_cons];lia
  ·rw[if_neg z,if_neg z,List.length_nil];lia
theorem JA(f:List Nat→D):∀(X:List (List Nat)) (j:Nat),xY j (X.map f)=(List.range' j X.length).map fun k=>D.tup [.int (k:Nat),f (X.getD (k-j) [])]:=by
 intro l_
 induction l_ with
 |nil=>
  rintro j
  exact rfl
 |cons x X ih_=>
  rintro j
  rw[List.map_cons,xY,ih_ (j+1),List.length_cons,List.range'_succ,List.map_cons]
  congr 1
  ·simp
  ·apply List.map_congr_left
   intro k hk
   rw[List.mem_range'_1] at hk
   have:k-j=(k-(j+1))+1:=by lia
   rw[this];rfl
theorem GG(rs:List Rw):eqD (.lst (rs.map yC)) (.lst (rs.map yC))=.ok (.bl true):=by
 refine X02 (Vx rs) fun a b c=>?_
 have ok:okD (.lst (rs.map yC))=true:=by
  simp[okD,wn,we,PyData.canLay0,PyData.depth,a,b]
  lia
 have ev:vq (.lst (rs.map yC)) (.lst (rs.map yC))=true:=by
  simp[vq,we,PyData.eqv,Jy]
 unfold eqD
 simp only[ok,and_self,if_true,ev]
theorem XD(X:List (List Nat))(q:List Nat)(n:Int)(hX:∀x∈X,x.length≤1000)(hXl:X.length≤10)(hq:q.length≤100)(sq:∀c∈q,c<128):zO (SL X q n) [.lst (X.map tx),tx q]=.ok (.bl true):=by
 have st:wH (.obr "Seeker" (SL X q n)) 0 4 [.lst (X.map tx),tx q]=[some (.obr "Seeker" (SL X q n)),some (.val (.lst (X.map tx))),some (.val (tx q)),none]:=rfl
 have hit:iEn (za (ze 1) zi) [some (.obr "Seeker" (SL X q n)),some (.val (.lst (X.map tx))),some (.val (tx q)),none]=.ok ((List.range X.length).map fun k=>D.tup [.int (k:Nat),tx (X.getD k [])]):=by
  show Rs.ok (xY 0 (X.map tx))=_
  rw[JA tx X 0,← List.range_eq_range'];rfl
 have cf:=wA (set:=gPr 0 1) (ft:=wB (zv wx (za (ze 2) (za (ze 1) zi)))) (fe:=ze 0) (τ:=[none,none,some (.val (tx q))]) (fun k=>D.tup [.int (k:Nat),tx (X.getD k [])]) (fun (k:Nat)=>D.int k) (fun k=>xa q (X.getD k [])) (List.range X.length) fun k hk=>
  ⟨[some (.val (.int (k:Nat))),some (.val (tx (X.getD k []))),some (.val (tx q))],rfl,tru_ok (Zd (zo rfl) (zo rfl) (Ul q _ (by lia) (hX _ (getD_mem (List.mem_range.mp hk))) sq)),rfl⟩
 have ec:=vS (k:=2) (idx:=[2]) (τ:=[some (.obr "Seeker" (SL X q n)),some (.val (.lst (X.map tx))),some (.val (tx q)),none]) hit cf (by rw[List.length_map];have:=je X q;unfold yz at this;lia)
 have e1:(fun τ=>((xK 2 [2] (iEn (za (ze 1) zi)) (gPr 0 1) (wB (zv wx (za (ze 2) (za (ze 1) zi)))) (ze 0)) τ).bind fun ds=>Rs.ok (D.lst ds)) [some (.obr "Seeker" (SL X q n)),some (.val (.lst (X.map tx))),some (.val (tx q)),none]=.ok (nts (yz X q)):=by
  simp only[ec,Rs.bind_ok];rfl
 have hf:=Jx X q 99 (by lia) hX sq (by lia)
 rw[List.take_of_length_le (by have:=VI X q;lia)] at hf
 have hn:=nowL X q n 99 (by lia) hX (by lia) sq
 rw[zg2 X q 99 (by lia)] at hn
 have t2:Ys (FD.tB (eOp neD (yL 0 "Seeker" "typed" xG zi) (ze 2))) (FD.tB (eOp neD (yL 0 "Seeker" "fitting" zJ zi) (ze 3))) [some (.obr "Seeker" (SL X q n)),some (.val (.lst (X.map tx))),some (.val (tx q)),some (.val (nts (yz X q)))]=.ok false:=
  T9 (vy (op2 (wK (o:=SL X q n) (ds:=[]) (WJ rfl) rfl rfl (M5 X q _ n)) (zo rfl) (tx_ne q))) (vy (op2 (wK (o:=SL X q n) (ds:=[]) (WJ rfl) rfl rfl (Wj X q n)) (zo rfl) (Lg _)))
 have e3:eOp eqD (yL 0 "Seeker" "now" yP (za (eC (.int 99)) zi)) (zv wN (za (ze 1) (za (ze 2) (za (eC (.int 99)) zi)))) [some (.obr "Seeker" (SL X q n)),some (.val (.lst (X.map tx))),some (.val (tx q)),some (.val (nts (yz X q)))]=.ok (.bl true):=
  op2 (wK (o:=SL X q n) (WJ rfl) rfl (Wu (a:=.int ((99:Nat):Int)) rfl) hn) (ur (zo rfl) (zo rfl) rfl hf) (GG _)
 unfold zO ZN jo
 rw[st,zX (vX e1)]
 simp only[List.set_cons_succ,List.set_cons_zero]
 rw[zX (Wd t2),Zp e3]
 rfl
set_option maxHeartbeats 2000000
noncomputable def T12(ns:List Int)(X:List (List Nat))(w:List Nat)(A B:Fs)(q:List Nat)(d:Nat)(a7 a8 a9 a10 a11:Option Sl):DS:=[some (.val (.scr ns)),some (.val (.lst (X.map tx))),some (.val (tx w)),some (.obj 0 "Seeker" A),some (.obj 0 "Seeker" B),some (.val (tx q)),some (.val (.int (d:Int))),a7,a8,a9,a10,a11]
theorem JQ{p:List Nat}{c:Nat}(h:∀d∈p,d∈QS)(hc:c∈QS):∀d∈p++[c],d∈QS:=fun d hd=>by
 rcases List.mem_append.mp hd with z|z
 ·exact h d z
 ·obtain rfl:d=c:=by simpa using z
  exact hc
section
variable{ns:List Int}{X:List (List Nat)}{w q:List Nat}{A B:Fs}{d:Nat}{a7 a8 a9 a10 a11:Option Sl}
noncomputable def lpB:FS:=(zI (yQ 6 (eOp zV (ze 6) (yd yr (za (yL 3 "Seeker" "fitting" zJ zi) zi))))
  (zI (yQ 5 (eOp zV (ze 5) (ze 7)))
  (zI (Ma (Qc (oB (oOp neD (wu 3 "Seeker" "letter" zQ (za (ze 7) zi)) (yd yr (za (yL 3 "Seeker" "fitting" zJ zi) zi)))) (J8 (wJ (wB (uS 3 "Seeker" zO zi (za (ze 1) (za (ze 5) zi))))))) (xb (eC (.bl false))) yf)
  (vG (wu 4 "Seeker" "letter" zQ (za (ze 7) zi))))))
theorem zh1(hX:∀x∈X,x.length≤1000)(hXl:X.length≤10)(p:List Nat)(c:Nat)(hp:p.length<8)(sp:∀c∈p,c∈QS)(hc:c∈QS) :
  lpB (T12 ns X w (SL X p (yJ X p:Nat)) (SL [] p 0) p (yJ X p) (some (.val (zH c))) a8 a9 a10 a11)=.nx (T12 ns X w (SL X (p++[c]) (yJ X (p++[c]):Nat)) (SL [] (p++[c]) 0) (p++[c]) (yJ X (p++[c])) (some (.val (zH c))) a8 a9 a10 a11):=by
 have sp1:=JQ sp hc
 have sp128:∀d∈p++[c],d<128:=fun d hd=>Q0 d (sp1 d hd)
 have e1:eOp zV (ze 6) (yd yr (za (yL 3 "Seeker" "fitting" zJ zi) zi)) (T12 ns X w (SL X p (yJ X p:Nat)) (SL [] p 0) p (yJ X p) (some (.val (zH c))) a8 a9 a10 a11)=.ok (.int (yJ X (p++[c]):Nat)):=by
  refine op2 (zo rfl) (uC (wK (o:=SL X p (yJ X p:Nat)) (ds:=[]) (ub rfl) rfl rfl (Wj X p _)) (Gj _)) ?_
  rw[xW,JE,Int.natCast_add]
 have e2:eOp zV (ze 5) (ze 7) (T12 ns X w (SL X p (yJ X p:Nat)) (SL [] p 0) p (yJ X (p++[c])) (some (.val (zH c))) a8 a9 a10 a11)=.ok (tx (p++[c])):=op2 (zo rfl) (zo rfl) (zb0 p [c] (by lia) (by simp))
 have l3:=Ue X p (yJ X p:Nat) c hX (by lia) hp sp hc
 rw[← Int.natCast_add,← JE] at l3
 have l4:=Ue [] p 0 c (by simp) (by simp) hp sp hc
 have o3:wu 3 "Seeker" "letter" zQ (za (ze 7) zi) (T12 ns X w (SL X p (yJ X p:Nat)) (SL [] p 0) (p++[c]) (yJ X (p++[c])) (some (.val (zH c))) a8 a9 a10 a11)=.ok (.int ((yz X (p++[c])).length:Nat),T12 ns X w (SL X (p++[c]) (yJ X (p++[c]):Nat)) (SL [] p 0) (p++[c]) (yJ X (p++[c])) (some (.val (zH c))) a8 a9 a10 a11):=
  j1 (n:=0) rfl rfl (Wu (zo rfl)) l3
 have f3:yd yr (za (yL 3 "Seeker" "fitting" zJ zi) zi) (T12 ns X w (SL X (p++[c]) (yJ X (p++[c]):Nat)) (SL [] p 0) (p++[c]) (yJ X (p++[c])) (some (.val (zH c))) a8 a9 a10 a11)=.ok (.int ((yz X (p++[c])).length:Nat)):=
  uC (wK (o:=SL X (p++[c]) (yJ X (p++[c]):Nat)) (ds:=[]) (ub rfl) rfl rfl (Wj X _ _)) (Gj _)
 have r3:wJ (wB (uS 3 "Seeker" zO zi (za (ze 1) (za (ze 5) zi)))) (T12 ns X w (SL X (p++[c]) (yJ X (p++[c]):Nat)) (SL [] p 0) (p++[c]) (yJ X (p++[c])) (some (.val (zH c))) a8 a9 a10 a11)=.ok false:=
  WY (tru_ok (Xs (o:=SL X (p++[c]) (yJ X (p++[c]):Nat)) (ds1:=[]) (ub rfl) rfl (zk5 (zo rfl) (zo rfl)) (XD X (p++[c]) _ hX hXl (by simp;lia) sp128)))
 unfold lpB
 rw[zX (vX e1)]
 show zI _ _ (T12 ns X w (SL X p (yJ X p:Nat)) (SL [] p 0) p (yJ X (p++[c])) (some (.val (zH c))) a8 a9 a10 a11)=_
 rw[zX (vX e2)]
 show zI _ _ (T12 ns X w (SL X p (yJ X p:Nat)) (SL [] p 0) (p++[c]) (yJ X (p++[c])) (some (.val (zH c))) a8 a9 a10 a11)=_
 rw[zX (zm2 (zl8 (zl9 (Lf o3 f3 (Ug _))) (Ge r3)))]
 rw[Yb (j1 (n:=0) (o:=SL [] p 0) rfl rfl (Wu (zo rfl)) l4)]
 rfl
theorem Gq(hX:∀x∈X,x.length≤1000)(hXl:X.length≤10):∀(r p:List Nat) (a7:Option Sl),p.length+r.length≤8→(∀c∈p,c∈QS)→(∀c∈r,c∈QS) →
  ∃b7,yO (gNm 7) lpB (r.map zH) (T12 ns X w (SL X p (yJ X p:Nat)) (SL [] p 0) p (yJ X p) a7 a8 a9 a10 a11)=.nx (T12 ns X w (SL X (p++r) (yJ X (p++r):Nat)) (SL [] (p++r) 0) (p++r) (yJ X (p++r)) b7 a8 a9 a10 a11):=by
 intro l_
 induction l_ with
 |nil=>
  rintro p a7 _ _ _
  exact⟨a7,by simp[yO]⟩
 |cons c r ih_=>
  rintro p a7 hl sp sr
  rw[List.length_cons] at hl
  obtain⟨b7,ih⟩:=ih_ (p++[c]) (some (.val (zH c))) (by simp;lia) (JQ sp (sr c List.mem_cons_self)) fun d hd=>sr d (List.mem_cons_of_mem _ hd)
  refine⟨b7,?_⟩
  rw[List.map_cons,yO]
  show Fl.of (Rs.ok (T12 ns X w (SL X p (yJ X p:Nat)) (SL [] p 0) p (yJ X p) (some (.val (zH c))) a8 a9 a10 a11)) _=_
  rw[Fl.of_ok,zh1 hX hXl p c (by lia) sp (sr c List.mem_cons_self)]
  simp only
  rw[ih,List.append_assoc];rfl
noncomputable def adE:FOb:=wu 1 "Seeker" "add" xv (za (ze 0) zi)
theorem adds(hw:w.length≤100)(sw:∀c∈w,c<128):∀(X W:List (List Nat)) (a0:Option Sl),(∀x∈X,x.length≤1000)→W.length+X.length≤1000 →
  ∃a0',jK (gNm 0) adE (X.map tx) [a0,some (.obj 1 "Seeker" (SL W w (yJ W w:Nat)))]=.ok ((List.range' W.length X.length).map fun (k:Nat)=>D.int k,[a0',some (.obj 1 "Seeker" (SL (W++X) w (yJ (W++X) w:Nat)))]):=by
 intro l_
 induction l_ with
 |nil=>
  rintro W a0 _ _
  exact⟨a0,by simp[jK]⟩
 |cons x X ih_=>
  rintro W a0 hX hl
  simp only[List.length_cons] at hl
  obtain⟨a0',ih⟩:=ih_ (W++[x]) (some (.val (tx x))) (fun y hy=>hX y (List.mem_cons_of_mem _ hy)) (by simp;lia)
  have h:=zv4 W w (yJ W w:Nat) x hw (by lia) (hX x List.mem_cons_self) sw
  rw[← Int.natCast_add,← zj4] at h
  have e:adE [some (.val (tx x)),some (.obj 1 "Seeker" (SL W w (yJ W w:Nat)))]=.ok (.int (W.length:Nat),[some (.val (tx x)),some (.obj 1 "Seeker" (SL (W++[x]) w (yJ (W++[x]) w:Nat)))]):=by
   unfold adE
   exact j1 (n:=1) (o:=SL W w (yJ W w:Nat)) rfl rfl (Wu (zo rfl)) h
  have hs:gNm 0 (tx x) [a0,some (.obj 1 "Seeker" (SL W w (yJ W w:Nat)))]=.ok [some (.val (tx x)),some (.obj 1 "Seeker" (SL W w (yJ W w:Nat)))]:=rfl
  refine⟨a0',?_⟩
  rw[List.map_cons,jK,hs]
  simp only[e,ih,List.length_cons,List.range'_succ,List.map_cons,List.length_append,List.length_nil,List.append_assoc,List.cons_append,List.nil_append]
theorem zd2{fe:FE}{τ:DS}{n:Nat}(h:fe τ=.ok (.int (n:Int)))(hn:n≤1000):(fun τ=>((uq (vi (za fe zi))) τ).bind fun ds=>.ok (.lst ds):FE) τ=.ok (nts (List.range n)):=by
 have r:=Zo h hn
 rw[Xf] at r
 show((uq (vi (za fe zi))) τ).bind _=_
 unfold uq
 rw[r,Rs.bind_ok,if_pos (by rw[List.length_map,List.length_range];lia)];rfl
theorem adC(hw:w.length≤100)(sw:∀c∈w,c<128)(hX:∀x∈X,x.length≤1000)(hXl:X.length≤10) :
  Ve 1 [4] 4 1 "Seeker" (ve (ze 1)) (gNm 0) (wu 1 "Seeker" "add" xv (za (ze 0) zi)) (T12 ns X w A (SL [] w 0) q d a7 a8 a9 a10 a11)=.ok (nts (List.range X.length),T12 ns X w A (SL X w (yJ X w:Nat)) q d a7 a8 a9 a10 a11):=by
 obtain⟨a0',had⟩:=adds hw sw X [] none hX (by simp;lia)
 rw[List.nil_append,zu6] at had
 unfold Ve
 rw[V6 (n:=0) (fs:=SL [] w 0) rfl,Rs.bind_ok]
 show(Rs.ok (X.map tx)).bind _=_
 rw[Rs.bind_ok]
 show(match jK (gNm 0) adE (X.map tx) [none,some (.obj 1 "Seeker" (SL [] w ((0:Nat):Int)))] with
  | .ok (xs,τe)=>(match v0 τe 1 "Seeker" with
   | .ok (m,fs')=>if m=1∧xs.length≤sizeLine then Rs.ok (D.lst xs,(T12 ns X w A (SL [] w 0) q d a7 a8 a9 a10 a11).set 4 (some (.obj 0 "Seeker" fs'))) else .no
   |_=>.no)
  |_=>.no)=_
 rw[had]
 simp only
 rw[V6 (n:=1) (fs:=SL X w (yJ X w:Nat)) rfl]
 simp only
 rw[if_pos (by first|exact⟨trivial,by rw[zK];simp;lia⟩ | (rw[zK];simp;lia))]
 rw[List.length_nil,← List.range_eq_range'];rfl
noncomputable def bkB:FS:=(zI (vG (wu 3 "Seeker" "back" xB zi))
  (sIf (Ys (wJ (wB (uS 3 "Seeker" zO zi (za (ze 1) (za (eSl (ze 2) vK (wt (eOp vV (eOp vV (yd yr (za (ze 2) zi)) (ze 9)) (eC (.int 1))))) zi))))) (FD.tB (eOp neD (yL 3 "Seeker" "looked" yc zi) (ze 6)))) (xb (eC (.bl false))) yf))
theorem Tc(w:List Nat)(j:Nat)(h:j<w.length):w.take (j+1)=w.take j++[w.getD j 0]:=by
 rw[List.take_succ,List.getElem?_eq_getElem h]
 simp[h]
theorem zj9(hX:∀x∈X,x.length≤1000)(hXl:X.length≤10)(hw:w.length≤8)(sw:∀c∈w,c<128)(k:Nat)(hk:k<w.length) :
  bkB (T12 ns X w (SL X (w.take (w.length-k)) (d:Int)) B q d a7 a8 (some (.val (.int (k:Int)))) a10 a11)=.nx (T12 ns X w (SL X (w.take (w.length-(k+1))) (d:Int)) B q d a7 a8 (some (.val (.int (k:Int)))) a10 a11):=by
 have e0:w.take (w.length-k)=w.take (w.length-(k+1))++[w.getD (w.length-(k+1)) 0]:=by
  rw[← Tc w _ (by lia)]
  congr 1;lia
 have b:=backL X (w.take (w.length-(k+1))) (w.getD (w.length-(k+1)) 0) (d:Int) (by rw[List.length_take];lia)
 rw[← e0] at b
 have sl:eSl (ze 2) vK (wt (eOp vV (eOp vV (yd yr (za (ze 2) zi)) (ze 9)) (eC (.int 1)))) (T12 ns X w (SL X (w.take (w.length-(k+1))) (d:Int)) B q d a7 a8 (some (.val (.int (k:Int)))) a10 a11)=.ok (tx (w.take (w.length-(k+1)))):=by
  refine QP (zo rfl) rfl (Gf (i:=((w.length-(k+1):Nat):Int)) (op2 (op2 (uC (zo rfl) (wb w (by lia))) (zo rfl) vF) rfl (by rw[vF];congr 2;lia))) ?_
  show(if (⟨w.toArray⟩:Str).length≤sizeLine then Rs.ok (D.str (Txt.slice ⟨w.toArray⟩ none (some ((w.length-(k+1):Nat):Int)))) else .no)=_
  rw[if_pos (by rw[vI,zK];lia),UL]
 have t:Ys (wJ (wB (uS 3 "Seeker" zO zi (za (ze 1) (za (eSl (ze 2) vK (wt (eOp vV (eOp vV (yd yr (za (ze 2) zi)) (ze 9)) (eC (.int 1))))) zi))))) (FD.tB (eOp neD (yL 3 "Seeker" "looked" yc zi) (ze 6))) (T12 ns X w (SL X (w.take (w.length-(k+1))) (d:Int)) B q d a7 a8 (some (.val (.int (k:Int)))) a10 a11)=.ok false:=
  T9 (WY (tru_ok (Xs (o:=SL X (w.take (w.length-(k+1))) (d:Int)) (ds1:=[]) (ub rfl) rfl (zk5 (zo rfl) sl) (XD X _ _ hX hXl (by rw[List.length_take];lia) fun c hc=>sw c (List.mem_of_mem_take hc))))) (vy (op2 (wK (o:=SL X (w.take (w.length-(k+1))) (d:Int)) (ds:=[]) (ub rfl) rfl rfl (YG X _ _ _)) (zo rfl) (Ug _)))
 unfold bkB
 rw[zX (Yb (j1 (n:=0) (o:=SL X (w.take (w.length-k)) (d:Int)) (ds:=[]) rfl rfl rfl b))]
 show sIf _ _ _ (T12 ns X w (SL X (w.take (w.length-(k+1))) (d:Int)) B q d a7 a8 (some (.val (.int (k:Int)))) a10 a11)=_
 rw[Wd t]
theorem lrL(hX:∀x∈X,x.length≤1000)(hXl:X.length≤10):∀(r p:List Nat) (n:Int) (a7:Option Sl),p.length+r.length≤8→(∀c∈p,c∈QS)→(∀c∈r,c∈QS) →
  ∃(n':Int) (b7:Option Sl),yO (gNm 7) (vG (wu 3 "Seeker" "letter" zQ (za (ze 7) zi))) (r.map zH) (T12 ns X w (SL X p n) B q d a7 a8 a9 a10 a11)=.nx (T12 ns X w (SL X (p++r) n') B q d b7 a8 a9 a10 a11):=by
 intro l_
 induction l_ with
 |nil=>
  rintro p n a7 _ _ _
  exact⟨n,a7,by simp[yO]⟩
 |cons c r ih_=>
  rintro p n a7 hl sp sr
  rw[List.length_cons] at hl
  have l3:=Ue X p n c hX (by lia) (by lia) sp (sr c List.mem_cons_self)
  obtain⟨n',b7,ih⟩:=ih_ (p++[c]) (n+((yz X p).length:Nat)) (some (.val (zH c))) (by simp;lia) (JQ sp (sr c List.mem_cons_self)) fun d hd=>sr d (List.mem_cons_of_mem _ hd)
  refine⟨n',b7,?_⟩
  have e:vG (wu 3 "Seeker" "letter" zQ (za (ze 7) zi)) (T12 ns X w (SL X p n) B q d (some (.val (zH c))) a8 a9 a10 a11)=.nx (T12 ns X w (SL X (p++[c]) (n+((yz X p).length:Nat))) B q d (some (.val (zH c))) a8 a9 a10 a11):=
   Yb (j1 (n:=0) rfl rfl (Wu (zo rfl)) l3)
  rw[List.map_cons,yO]
  show Fl.of (Rs.ok (T12 ns X w (SL X p n) B q d (some (.val (zH c))) a8 a9 a10 a11)) _=_
  rw[Fl.of_ok,e]
  simp only
  rw[ih,List.append_assoc];rfl
end
theorem zg8(X:List (List Nat))(q:List Nat):∃L,LV X q=List.range X.length::L∧L.length=q.length:=by
 refine Y11 ((List.range q.length).map fun i=>yz X (q.take (i+1))) ?_ (by simp)
 unfold LV
 rw[List.range_succ_eq_map,List.map_cons,List.take_zero,Jv,List.map_map]
 rfl
theorem Ll:∀(X:List (List Nat)),(∀x∈X,∀c∈x,c<128)→plainDs (X.map tx)=true∧PyData.canLayAll0 (toPys (X.map tx))=true∧PyData.depthAll (toPys (X.map tx))=0:=by
 intro l_
 induction l_ with
 |nil=>
  rintro _
  exact⟨rfl,rfl,rfl⟩
 |cons x X ih_=>
  rintro h
  refine X02 (ih_ fun y hy=>h y (List.mem_cons_of_mem _ hy)) fun a b c=>?_
  have h1:=h x (List.mem_cons_self ..)
  have h2:PyData.strOk ⟨x.toArray⟩=true:=by
   simp only[PyData.strOk,List.size_toArray]
   first
    | (intro i hi;have:=h1 x[i] (List.getElem_mem _);simp;lia)
    | (simp;intro c hc;have:=h1 c hc;lia)
  exact⟨by simp[plainDs,wn,tx,a],by simp[toPys,we,tx,PyData.canLayAll0,PyData.canLay0,h2,b],by simp[toPys,we,tx,PyData.depthAll,PyData.depth,c]⟩
theorem zg3(X:List (List Nat))(h:∀x∈X,∀c∈x,c<128):okD (.lst (X.map tx))=true:=by
 refine X02 (Ll X h) fun a b c=>?_
 simp[okD,wn,we,PyData.canLay0,PyData.depth,a,b,c]
theorem Qj(X:List (List Nat))(hX:∀x∈X,QF x):eqD (.lst (X.map tx)) (.lst [])=.ok (.bl X.isEmpty):=by
 have ok:okD (.lst (X.map tx))=true:=zg3 X fun x hx c hc=>ns_lt c ((hX x hx).2.2 c hc)
 have o2:okD (.lst [])=true:=by decide
 have ev:vq (.lst (X.map tx)) (.lst [])=X.isEmpty:=by
  cases X with
  |nil=>simp[vq,we,toPys,PyData.eqv,PyData.eqvAll]
  |cons x X=>simp[vq,we,toPys,PyData.eqv,PyData.eqvAll]
 simp only[eqD,ok,o2,and_self,if_true,ev]
section
variable{ns:List Int}{X:List (List Nat)}{w q:List Nat}{A B:Fs}{d:Nat}{a7 a8 a9 a10 a11:Option Sl}
noncomputable def rwE:FE:=fun τ=>((xK 1 [10] (ve (zv wN (za (ze 1) (za (ze 2) (za (eC (.int 99)) zi))))) (gNm 0) (FD.tB (eOp neD (eOp ixD (ze 0) (eC (.int 1))) (ze 1))) (ze 0)) τ).bind fun ds=>.ok (.lst ds)
theorem rw_ok(hX:∀x∈X,x.length≤1000)(hXl:X.length≤10)(hw:w.length≤8)(sw:∀c∈w,c<128)(h:Nat):rwE (T12 ns X w A B q d a7 a8 a9 (some (.val (.int (h:Int)))) a11)=.ok (.lst ((Z7 X w h).map yC)):=by
 have hf:=Jx X w 99 (by lia) hX sw (by lia)
 rw[List.take_of_length_le (by have:=VI X w;lia)] at hf
 have hit:ve (zv wN (za (ze 1) (za (ze 2) (za (eC (.int 99)) zi)))) (T12 ns X w A B q d a7 a8 a9 (some (.val (.int (h:Int)))) a11)=.ok ((wj (vD X) (j8 X w)).map yC):=by
  rw[Z6,ur (zo rfl) (zo rfl) rfl hf];rfl
 have cf:=wA (set:=gNm 0) (ft:=FD.tB (eOp neD (eOp ixD (ze 0) (eC (.int 1))) (ze 1))) (fe:=ze 0) (τ:=[none,some (.val (.int (h:Int)))]) yC yC (fun r=>!(r.2==h)) (wj (vD X) (j8 X w)) fun r _=>by
  refine Y12 ([some (.val (yC r)),some (.val (.int (h:Int)))]) rfl (vy (op2 (op2 (zo rfl) rfl (QY r)) (zo rfl) ?_)) rfl
  rw[Lo]
  have:((r.2:Int)==(h:Int))=(r.2==h):=by
   rw[Bool.eq_iff_iff,beq_iff_eq,beq_iff_eq];lia
  rw[this]
 have ec:=vS (k:=1) (idx:=[10]) (τ:=T12 ns X w A B q d a7 a8 a9 (some (.val (.int (h:Int)))) a11) hit cf (by rw[List.length_map];have:=Xp X w h;unfold Z7 at this;lia)
 unfold rwE
 simp only[ec,Rs.bind_ok]
 rfl
noncomputable def nuE:FE:=fun τ=>((xK 1 [] (ve (ze 11)) (gNm 0) (fun _=>.ok true) (eOp ixD (ze 0) (eC (.int 1)))) τ).bind fun ds=>.ok (.lst ds)
theorem nu_ok(rs:List Rw)(hl:rs.length≤1000):nuE (T12 ns X w A B q d a7 a8 a9 a10 (some (.val (.lst (rs.map yC)))))=.ok (.lst ((rs.map fun r=>((r.2:Nat):Int)).map D.int)):=by
 have cm:=Yh (set:=gNm 0) (fe:=eOp ixD (ze 0) (eC (.int 1))) (τ:=[none]) yC D.int (fun (r:Rw)=>((r.2:Nat):Int)) rs fun r _=>⟨[some (.val (yC r))],rfl,op2 (zo rfl) rfl (QY r)⟩
 have ec:=vS (k:=1) (idx:=[]) (fi:=ve (ze 11)) (τ:=T12 ns X w A B q d a7 a8 a9 a10 (some (.val (.lst (rs.map yC))))) (ds:=rs.map yC) rfl cm (by rw[List.length_map,List.length_map];exact hl)
 unfold nuE
 simp only[ec,Rs.bind_ok]
end
theorem main(ns:List Int)(h63:ns.length≤63):Gn [.scr ns]=.ok (.bl true):=by
 have st:z0 12 [D.scr ns]=[some (.val (.scr ns)),none,none,none,none,none,none,none,none,none,none,none]:=rfl
 refine X12 (Lp ns 0 5 h63 (by decide) (by decide) (by decide) (by decide)) fun X e1 hXl hX=>?_
 have hXl:X.length≤5:=by lia
 have hX3:∀x∈X,x.length≤1000:=fun x hx=>Nat.le_trans (hX x hx).2.1 (by decide)
 refine X12 (qE_ok ns X 80 79 5 h63 (by decide) (by decide) (by decide) (by decide) (by decide) (by decide) hX (by lia) [none,none,none,none,none,none,none,none,none,none]) fun w hw5 swQ e2=>?_
 have hw5:w.length≤5:=by lia
 have sw:∀c∈w,c<128:=fun c h=>Q0 c (swQ c h)
 unfold qE at e2
 have c1:zv xT (za (ze 0) (za (eC (.int 0)) (za (eC (.int 5)) zi))) [some (.val (.scr ns)),none,none,none,none,none,none,none,none,none,none,none]=.ok (.lst (X.map tx)):=ur (zo rfl) rfl rfl e1
 have mk1:YN 3 "Seeker" yi (za (ze 1) zi) [some (.val (.scr ns)),some (.val (.lst (X.map tx))),some (.val (tx w)),none,none,none,none,none,none,none,none,none]=.nx [some (.val (.scr ns)),some (.val (.lst (X.map tx))),some (.val (tx w)),some (.obj 0 "Seeker" (SL X [] 0)),none,none,none,none,none,none,none,none]:=Gm (Wu (zo rfl)) (LJ X (by lia))
 have mk2:YN 4 "Seeker" yi (za (jf zi) zi) [some (.val (.scr ns)),some (.val (.lst (X.map tx))),some (.val (tx w)),some (.obj 0 "Seeker" (SL X [] 0)),none,none,none,none,none,none,none,none]=.nx [some (.val (.scr ns)),some (.val (.lst (X.map tx))),some (.val (tx w)),some (.obj 0 "Seeker" (SL X [] 0)),some (.obj 0 "Seeker" (SL [] [] 0)),none,none,none,none,none,none,none]:=Gm (Wu zr4) (LJ [] (by simp))
 have s5:eC (.str "") [some (.val (.scr ns)),some (.val (.lst (X.map tx))),some (.val (tx w)),some (.obj 0 "Seeker" (SL X [] 0)),some (.obj 0 "Seeker" (SL [] [] 0)),none,none,none,none,none,none,none]=.ok (tx []):=by rw[yM,GI]
 obtain⟨b7,lp⟩:=Gq (ns:=ns) (X:=X) (w:=w) (a8:=none) (a9:=none) (a10:=none) (a11:=none) hX3 (by lia) w [] none (by simp;lia) (by simp) swQ
 rw[List.nil_append] at lp
 have it7:ve (ze 2) (T12 ns X w (SL X [] (yJ X []:Nat)) (SL [] [] 0) [] (yJ X []) none none none none none)=.ok (w.map zH):=by
  rw[Z6,zo (d:=tx w) rfl,Rs.bind_ok,Jh,UA]
 have f7:vY (ve (ze 2)) (gNm 7) lpB (T12 ns X w (SL X [] (yJ X []:Nat)) (SL [] [] 0) [] (yJ X []) none none none none none)=.nx (T12 ns X w (SL X w (yJ X w:Nat)) (SL [] w 0) w (yJ X w) b7 none none none none):=by
  rw[wZ,it7,Fl.of_ok];exact lp
 unfold lpB at f7
 generalize hD:yJ X w=d at f7
 have t8:FD.tB (eOp neD (yL 3 "Seeker" "looked" yc zi) (ze 6)) (T12 ns X w (SL X w (d:Int)) (SL [] w 0) w d b7 none none none none)=.ok false:=vy (op2 (wK (o:=SL X w (d:Int)) (ds:=[]) (ub rfl) rfl rfl (YG X w _ _)) (zo rfl) (Ug _))
 have ac:=adC (ns:=ns) (A:=SL X w (d:Int)) (q:=w) (d:=d) (a7:=b7) (a8:=none) (a9:=none) (a10:=none) (a11:=none) (by lia) sw hX3 (by lia)
 rw[hD] at ac
 have rt:∀n:Int,zO (SL X w n) ([]++[.lst (X.map tx),tx w])=.ok (.bl true):=fun n=>XD X w n hX3 (by lia) (by lia) sw
 have t9:Qc (oB (oOp neD (Ve 1 [4] 4 1 "Seeker" (ve (ze 1)) (gNm 0) (wu 1 "Seeker" "add" xv (za (ze 0) zi))) (fun τ=>((uq (vi (za (yd yr (za (ze 1) zi)) zi))) τ).bind fun ds=>.ok (.lst ds)))) (J8 (wJ (wB (uS 4 "Seeker" zO zi (za (ze 1) (za (ze 2) zi)))))) (T12 ns X w (SL X w (d:Int)) (SL [] w 0) w d b7 none none none none)=.ok (false,T12 ns X w (SL X w (d:Int)) (SL X w (d:Int)) w d b7 none none none none):=
  zl8 (zl9 (Lf ac (zd2 (uC (zo rfl) (by rw[v5,List.length_map])) (by lia)) (Lg _))) (Ge (WY (tru_ok (Xs (o:=SL X w (d:Int)) (ds1:=[]) (ub rfl) rfl (zk5 (zo rfl) (zo rfl)) (rt _)))))
 have t10:FD.tB (eOp neD (yL 4 "Seeker" "looked" yc zi) (ze 6)) (T12 ns X w (SL X w (d:Int)) (SL X w (d:Int)) w d b7 none none none none)=.ok false:=vy (op2 (wK (o:=SL X w (d:Int)) (ds:=[]) (ub rfl) rfl rfl (YG X w _ _)) (zo rfl) (Ug _))
 have dl:=vh ns 110 (m:=(w.length:Int)+1) (by lia)
 have dk:=vg ns 110 ((w.length:Int)+1) h63 (by decide) (by decide) (by lia)
 obtain⟨M,hM⟩:∃M:Nat,wd ns 110 ((w.length:Int)+1)=(M:Int):=⟨(wd ns 110 ((w.length:Int)+1)).toNat,by lia⟩
 rw[hM] at dl dk
 have hMw:M≤w.length:=by lia
 have e11:zv zu (za (ze 0) (za (eC (.int 110)) (za (eOp zV (yd yr (za (ze 2) zi)) (eC (.int 1))) zi))) (T12 ns X w (SL X w (d:Int)) (SL X w (d:Int)) w d b7 none none none none)=.ok (.int (M:Int)):=ur (zo rfl) rfl (op2 (uC (zo rfl) (wb w (by lia))) rfl xW) dk
 refine X11 (j2 (set:=gNm 9) (body:=bkB) (fun (k:Nat)=>D.int k) (fun k τ=>∃b9,τ=T12 ns X w (SL X (w.take (w.length-k)) (d:Int)) (SL X w (d:Int)) w d b7 (some (.val (.int (M:Int)))) b9 none none) M (T12 ns X w (SL X w (d:Int)) (SL X w (d:Int)) w d b7 (some (.val (.int (M:Int)))) none none none) ⟨none,by rw[Nat.sub_zero,List.take_length]⟩ fun k τ hk hI=>by
  obtain⟨b9,rfl⟩:=hI
  exact⟨_,_,rfl,zj9 hX3 (by lia) (by lia) sw k (by lia),_,rfl⟩) fun τ12 lp12 r113_=>?_;refine X10 r113_ fun b9 h12=>?_
 subst h12
 have f12:vY (vi (za (ze 8) zi)) (gNm 9) bkB (T12 ns X w (SL X w (d:Int)) (SL X w (d:Int)) w d b7 (some (.val (.int (M:Int)))) none none none)=.nx (T12 ns X w (SL X (w.take (w.length-M)) (d:Int)) (SL X w (d:Int)) w d b7 (some (.val (.int (M:Int)))) b9 none none):=by
  rw[wZ,Zo (n:=M) (zo rfl) (by lia),Xf,Fl.of_ok];exact lp12
 unfold bkB at f12
 obtain⟨n3,b7',lp13⟩:=lrL (ns:=ns) (X:=X) (w:=w) (q:=w) (B:=SL X w (d:Int)) (d:=d) (a8:=some (.val (.int (M:Int)))) (a9:=b9) (a10:=none) (a11:=none) hX3 (by lia) (w.drop (w.length-M)) (w.take (w.length-M)) (d:Int) b7 (by rw[List.length_take,List.length_drop];lia) (fun c hc=>swQ c (List.mem_of_mem_take hc)) (fun c hc=>swQ c (List.mem_of_mem_drop hc))
 rw[List.take_append_drop] at lp13
 have sl13:eSl (ze 2) (wt (eOp vV (yd yr (za (ze 2) zi)) (ze 8))) vK (T12 ns X w (SL X (w.take (w.length-M)) (d:Int)) (SL X w (d:Int)) w d b7 (some (.val (.int (M:Int)))) b9 none none)=.ok (tx (w.drop (w.length-M))):=by
  refine QP (zo rfl) (Gf (i:=((w.length-M:Nat):Int)) (op2 (uC (zo rfl) (wb w (by lia))) (zo rfl) (by rw[vF];exact congrArg Rs.ok (congrArg D.int (by lia))))) rfl ?_
  show(if (⟨w.toArray⟩:Str).length≤sizeLine then Rs.ok (D.str (Txt.slice ⟨w.toArray⟩ (some ((w.length-M:Nat):Int)) none)) else .no)=_
  rw[if_pos (by rw[vI,zK];lia),JX w _ (by lia)]
 have f13:vY (ve (eSl (ze 2) (wt (eOp vV (yd yr (za (ze 2) zi)) (ze 8))) vK)) (gNm 7) (vG (wu 3 "Seeker" "letter" zQ (za (ze 7) zi))) (T12 ns X w (SL X (w.take (w.length-M)) (d:Int)) (SL X w (d:Int)) w d b7 (some (.val (.int (M:Int)))) b9 none none)=.nx (T12 ns X w (SL X w n3) (SL X w (d:Int)) w d b7' (some (.val (.int (M:Int)))) b9 none none):=by
  rw[wZ,Z6,sl13,Rs.bind_ok,Jh,UA,Fl.of_ok];exact lp13
 have t14:wJ (wB (uS 3 "Seeker" zO zi (za (ze 1) (za (ze 2) zi)))) (T12 ns X w (SL X w n3) (SL X w (d:Int)) w d b7' (some (.val (.int (M:Int)))) b9 none none)=.ok false:=WY (tru_ok (Xs (o:=SL X w n3) (ds1:=[]) (ub rfl) rfl (zk5 (zo rfl) (zo rfl)) (rt _)))
 have t15:FD.tB (eOp eqD (ze 1) (jf zi)) (T12 ns X w (SL X w n3) (SL X w (d:Int)) w d b7' (some (.val (.int (M:Int)))) b9 none none)=.ok X.isEmpty:=vy (op2 (zo rfl) zr4 (Qj X hX))
 unfold Gn zm8
 rw[yx,st,zX (vX c1)]
 simp only[List.set_cons_succ,List.set_cons_zero]
 rw[zX (vX e2)]
 simp only[List.set_cons_succ,List.set_cons_zero]
 rw[zX mk1,zX mk2,zX (vX s5)]
 simp only[List.set_cons_succ,List.set_cons_zero]
 rw[zX (vX (d:=.int 0) rfl)]
 show Y1 (zI _ _ (T12 ns X w (SL X [] (yJ X []:Nat)) (SL [] [] 0) [] (yJ X []) none none none none none))=_
 rw[zX f7]
 rw[zX (Wd t8),zX (zm2 t9),zX (Wd t10),zX (vX e11)]
 show Y1 (zI _ _ (T12 ns X w (SL X w (d:Int)) (SL X w (d:Int)) w d b7 (some (.val (.int (M:Int)))) none none none))=_
 rw[zX f12,zX f13,zX (Wd t14)]
 cases z:X.isEmpty with
 |true=>
  rw[z] at t15
  rw[zU,if_t t15,Zp (d:=.bl true) rfl]
  rfl
 |false=>
  rw[z] at t15
  have hx0:0<X.length:=by
   rcases Nat.eq_zero_or_pos X.length with y|y
   ·rw[List.length_eq_zero_iff.mp y] at z;cases z
   ·exact y
  have dl2:=vh ns 111 (m:=(X.length:Int)) (by lia)
  have dk2:=vg ns 111 (X.length:Int) h63 (by decide) (by decide) (by lia)
  obtain⟨h,hh⟩:∃h:Nat,wd ns 111 (X.length:Int)=(h:Int):=⟨(wd ns 111 (X.length:Int)).toNat,by lia⟩
  rw[hh] at dl2 dk2
  have e16:zv zu (za (ze 0) (za (eC (.int 111)) (za (yd yr (za (ze 1) zi)) zi))) (T12 ns X w (SL X w n3) (SL X w (d:Int)) w d b7' (some (.val (.int (M:Int)))) b9 none none)=.ok (.int (h:Int)):=ur (zo rfl) rfl (uC (zo rfl) (by rw[v5,List.length_map])) dk2
  refine X11 (zg8 X w) fun L hL hLl=>?_
  have hid:x9 (SL X w n3) [.int (h:Int)]=.ok (.non,SK X w ((LV X w).map (wo h)) n3):=by
   have hlen:∀m∈LV X w,m.length≤1000:=fun m hm=>by
    unfold LV at hm
    obtain⟨i,_,rfl⟩:=List.mem_map.mp hm
    have:=je X (w.take i)
    lia
   unfold SL
   rw[hL] at hlen ⊢
   exact zi6 X w (List.range X.length) L n3 h (List.mem_range.mpr (by lia)) hlen (by lia)
  have eL:(LV X w).map (wo h)=(LVp X w).map (wo h)++[wo h (yz X w)]:=by rw[j5,List.map_append,List.map_singleton]
  rw[eL] at hid
  have e18:=rw_ok (ns:=ns) (A:=SK X w ((LVp X w).map (wo h)++[wo h (yz X w)]) n3) (B:=SL X w (d:Int)) (q:=w) (d:=d) (a7:=b7') (a8:=some (.val (.int (M:Int)))) (a9:=b9) (a11:=none) hX3 (by lia) (by lia) sw h
  have s18:yQ 11 (fun τ=>((xK 1 [10] (ve (zv wN (za (ze 1) (za (ze 2) (za (eC (.int 99)) zi))))) (gNm 0) (FD.tB (eOp neD (eOp ixD (ze 0) (eC (.int 1))) (ze 1))) (ze 0)) τ).bind fun ds=>.ok (.lst ds)) (T12 ns X w (SK X w ((LVp X w).map (wo h)++[wo h (yz X w)]) n3) (SL X w (d:Int)) w d b7' (some (.val (.int (M:Int)))) b9 (some (.val (.int (h:Int)))) none)=.nx (T12 ns X w (SK X w ((LVp X w).map (wo h)++[wo h (yz X w)]) n3) (SL X w (d:Int)) w d b7' (some (.val (.int (M:Int)))) b9 (some (.val (.int (h:Int)))) (some (.val (.lst ((Z7 X w h).map yC))))):=vX (fe:=rwE) e18
  have hwl:(wo h (yz X w)).length≤X.length:=Nat.le_trans (List.length_filter_le _ _) (je X w)
  have hnw:=Lh X w ((LVp X w).map (wo h)) (wo h (yz X w)) n3 99 (by lia) hX3 sw (List.Pairwise.filter _ (GF X w)) (by lia) fun k hk=>Um (List.mem_filter.mp hk).1
  rw[zg1 X w h 99 (by lia)] at hnw
  have hft:=Wi X w ((LVp X w).map (wo h)) (wo h (yz X w)) n3
  have hsr:G4 [.lst (((Z7 X w h).map fun r=>((r.2:Nat):Int)).map D.int)]=.ok (nts (wo h (yz X w))):=by
   rw[zn8 _ (by rw[List.length_map];have:=Xp X w h;lia),zi7,List.map_map];rfl
  have hnu:=nu_ok (ns:=ns) (X:=X) (w:=w) (A:=SK X w ((LVp X w).map (wo h)++[wo h (yz X w)]) n3) (B:=SL X w (d:Int)) (q:=w) (d:=d) (a7:=b7') (a8:=some (.val (.int (M:Int)))) (a9:=b9) (a10:=some (.val (.int (h:Int)))) (Z7 X w h) (by have:=Xp X w h;lia)
  unfold nuE at hnu
  have last:MS (eOp eqD (yL 3 "Seeker" "now" yP (za (eC (.int 99)) zi)) (ze 11)) (eOp eqD (yL 3 "Seeker" "fitting" zJ zi) (yd G4 (za (fun τ=>((xK 1 [] (ve (ze 11)) (gNm 0) (fun _=>.ok true) (eOp ixD (ze 0) (eC (.int 1)))) τ).bind fun ds=>.ok (.lst ds)) zi))) (T12 ns X w (SK X w ((LVp X w).map (wo h)++[wo h (yz X w)]) n3) (SL X w (d:Int)) w d b7' (some (.val (.int (M:Int)))) b9 (some (.val (.int (h:Int)))) (some (.val (.lst ((Z7 X w h).map yC)))))=.ok (.bl true):=
   zv1 (op2 (wK (o:=SK X w ((LVp X w).map (wo h)++[wo h (yz X w)]) n3) (ub rfl) rfl (Wu (a:=.int ((99:Nat):Int)) rfl) hnw) (zo rfl) (GG _)) (op2 (wK (o:=SK X w ((LVp X w).map (wo h)++[wo h (yz X w)]) n3) (ds:=[]) (ub rfl) rfl rfl hft) (uC hnu hsr) (zr3 _))
  rw[zX (Wd t15),zX (vX e16)]
  show Y1 (zI _ _ (T12 ns X w (SL X w n3) (SL X w (d:Int)) w d b7' (some (.val (.int (M:Int)))) b9 (some (.val (.int (h:Int)))) none))=_
  rw[zX (Yb (j1 (n:=0) (o:=SL X w n3) rfl rfl (Wu (zo rfl)) hid))]
  show Y1 (zI _ _ (T12 ns X w (SK X w ((LVp X w).map (wo h)++[wo h (yz X w)]) n3) (SL X w (d:Int)) w d b7' (some (.val (.int (M:Int)))) b9 (some (.val (.int (h:Int)))) none))=_
  rw[zX s18,Zp last]
  rfl
set_option maxHeartbeats 4000000
noncomputable def top(i:Nat):Stmt:=PySem.Challenge.pw_fewfind_k31_whole_seekers.main.body.getD i (.Pass ⟨0,0,0,0⟩)
section
variable{P:Program}{w:World}{K:Frag}{mg:Str→Option Value}{base:Heap}
noncomputable abbrev wm:Stmt:=top 42
theorem VN:zD ["_law_script", "_law_k"] ["_law_script", "_law_k"] (zh wm):=⟨rfl,rfl,rfl,by decide +kernel,rfl,by decide +kernel,by decide +kernel⟩
theorem V9{f:Addr}{fd:FuncData}(A_:z7 K mg "_law_cell" wm f fd)(ab:mg "len" = none):DefOk P w K mg base "_law_cell" 1 2 ["_law_script", "_law_k"] wX:=by
 refine DefOk.mk (k:=0) A_ VN rfl (fun _ _ _ _ _ _ us hl=>by obtain⟨_,_,rfl⟩:=lnz2 hl;rfl) (fun cdv A outer s H E hr=>?_) fun _ _ _ h=>h
 exact(zm (y8 (yg (wS hr.units) (zb (pv 0)) (u3 zk) (yt _)) (zq (zP (zB vw zn (zb (pv 1))))) zY) (zq (zP (zB zR (yk yS (zb (pv 0)) (zB jZ (zb (pv 1)) (zL yT rfl ab PySem.boot_len (zc (zb (pv 0)) zk)))) (zB vw zn (zB ZZ (zb (pv 1)) (zL yT rfl ab PySem.boot_len (zc (zb (pv 0)) zk))))))))
noncomputable abbrev xP:Stmt:=top 43
theorem sc__law_drawn:zD ["_law_script", "_law_k", "_law_many", "_law_cell_here"] ["_law_script", "_law_k", "_law_many"] (zh xP):=⟨rfl,rfl,rfl,by decide +kernel,rfl,by decide +kernel,by decide +kernel⟩
theorem WG{f:Addr}{fd:FuncData}(A_:z7 K mg "_law_drawn" xP f fd)(aH:DefOk P w K mg base "_law_cell" 1 2 ["_law_script", "_law_k"] wX):DefOk P w K mg base "_law_drawn" 2 3 ["_law_script", "_law_k", "_law_many"] zu:=by
 refine DefOk.mk (k:=1) A_ sc__law_drawn rfl (fun _ _ _ _ _ _ us hl=>by obtain⟨_,_,_,rfl⟩:=lnz3 hl;rfl) (fun cdv A outer s H E hr=>?_) fun _ _ _ h=>h
 exact(zm (yh (i:=3) sc__law_drawn.nd rfl (Or.inl rfl) (zB jZ (zB zR (zB vw (zB jZ (zN aH (hr.mono (by decide)) (zc (zb (pv 0)) (zc (zb (pv 1)) zk)) (zg (zg zr))) zn) zn) (zB vw zn (zB zR (zb (pv 1)) zn))) zn)) (zm (yh (i:=3) sc__law_drawn.nd rfl (Or.inl rfl) (zB jZ (zB zR (zB vw (zb (pv 3)) (zb (pv 3))) (zB ZZ (zb (pv 3)) zn)) zn)) (zq (zP (zB jZ (zB ZZ (zB jZ (zB zR (zB vw (zb (pv 3)) (zb (pv 3))) (zB ZZ (zb (pv 3)) zn)) zn) zn) (zb (pv 2)))))))
noncomputable abbrev wk:Stmt:=top 44
theorem sc__law_name:zD ["_law_script", "_law_at", "_law_found", "_law_k"] ["_law_script", "_law_at"] (zh wk):=⟨rfl,rfl,rfl,by decide +kernel,rfl,by decide +kernel,by decide +kernel⟩
theorem V7{f:Addr}{fd:FuncData}(A_:z7 K mg "_law_name" wk f fd)(ag:DefOk P w K mg base "_law_drawn" 2 3 ["_law_script", "_law_k", "_law_many"] zu)(ad:mg "range" = none):DefOk P w K mg base "_law_name" 3 2 ["_law_script", "_law_at"] xI:=by
 refine DefOk.mk (k:=2) A_ sc__law_name rfl (fun _ _ _ _ _ _ us hl=>by obtain⟨_,_,rfl⟩:=lnz2 hl;rfl) (fun cdv A outer s H E hr=>?_) fun _ _ _ h=>h
 exact(zm (yh (i:=2) sc__law_name.nd rfl (Or.inl rfl) vO) (zm (w6 PassesOwn.never rfl (wR rfl ad (zc (zB zR zn (zN ag (hr.mono (by decide)) (zc (zb (pv 0)) (zc (zb (pv 1)) (zc zn zk))) (zg (zg (zg zr))))) zk)) (yB sc__law_name.nd rfl (Or.inl rfl)) (zq (yh (i:=2) sc__law_name.nd rfl (Or.inl rfl) (zB zR (zb (pv 2)) (yk yS vO (zN ag (hr.mono (by decide)) (zc (zb (pv 0)) (zc (zB zR (zB zR (zb (pv 1)) zn) (zb (pv 3))) (zc zn zk))) (zg (zg (zg zr))))))))) (zq (zP (zb (pv 2))))))
noncomputable abbrev xO:Stmt:=top 46
theorem sc__law_names:zD ["_law_script", "_law_at", "_law_most", "_law_found"] ["_law_script", "_law_at", "_law_most"] (zh xO):=⟨rfl,rfl,rfl,by decide +kernel,rfl,by decide +kernel,by decide +kernel⟩
theorem WF{f:Addr}{fd:FuncData}(A_:z7 K mg "_law_names" xO f fd)(ag:DefOk P w K mg base "_law_drawn" 2 3 ["_law_script", "_law_k", "_law_many"] zu)(aI:DefOk P w K mg base "_law_name" 3 2 ["_law_script", "_law_at"] xI)(ab:mg "len" = none)(ad:mg "range" = none):DefOk P w K mg base "_law_names" 4 3 ["_law_script", "_law_at", "_law_most"] xT:=by
 refine DefOk.mk (k:=3) A_ sc__law_names rfl (fun _ _ _ _ _ _ us hl=>by obtain⟨_,_,_,rfl⟩:=lnz3 hl;rfl) (fun cdv A outer s H E hr=>?_) fun _ _ _ h=>h
 exact(zm (J3 (i:=3) sc__law_names.nd rfl rfl rfl (tn:=["_law_k"]) (fr:=["_law_script", "_law_at"]) (idx:=[0,1]) rfl rfl ⟨rfl,rfl,⟨rfl,rfl,trivial⟩⟩ (vz 0) (PDI.h (wR rfl ad (zc (zN ag (hr.mono (by decide)) (zc (zb (pv 0)) (zc (zb (pv 1)) (zc (zB zR (zb (pv 2)) zn) zk))) (zg (zg (zg zr)))) zk))) (fun s H C fp=>(yB (show List.Nodup (["_law_k", "_law_script", "_law_at"]:List Str) by decide +kernel) rfl (Or.inl rfl))) (fun s H C fp=>ZS) (fun s H C fp=>(zN aI (hr.mono (by decide)) (zc (zb (pv 1)) (zc (zB zR (zB zR (zb (pv 2)) zn) (zB vw zn (zb (pv 0)))) zk)) (zg (zg zr))))) (zm (y8 (YR (VZ (yg J9 (XO (pv 3) rfl ab) zn (yt _)) (XI (yg (wS hr.units) (zN ag (hr.mono (by decide)) (zc (zb (pv 0)) (zc (zB zR (zb (pv 1)) zn) (zc zn zk))) (zg (zg (zg zr)))) zn (yt _))))) (zq (ze7 (pv 3) zn (zf1 (pv 3) (wF zn)))) zY) (zq (ZT (pv 3)))))
noncomputable abbrev wl:Stmt:=top 45
theorem VM:zD ["_law_sign"] ["_law_sign"] (zh wl):=⟨rfl,rfl,rfl,by decide +kernel,rfl,by decide +kernel,by decide +kernel⟩
theorem V8{f:Addr}{fd:FuncData}(A_:z7 K mg "_law_mark" wl f fd):DefOk P w K mg base "_law_mark" 1 1 ["_law_sign"] xJ:=by
 refine DefOk.mk (k:=0) A_ VM rfl (fun _ _ _ _ _ _ us hl=>by obtain⟨_,rfl⟩:=lnz1 hl;rfl) (fun cdv A outer s H E hr=>?_) fun _ _ _ h=>h
 exact(zq (zP (va (u7 (vt hr)) (zb (pv 0)) vO (by with_unfolding_all rfl))))
noncomputable abbrev xN:Stmt:=top 47
theorem sc__law_query:zD ["_law_script", "_law_at", "_law_name_here", "_law_most", "_law_found", "_law_place", "_law_k", "_law_sign"] ["_law_script", "_law_at", "_law_name_here", "_law_most"] (zh xN):=⟨rfl,rfl,rfl,by decide +kernel,rfl,by decide +kernel,by decide +kernel⟩
theorem WE{f:Addr}{fd:FuncData}(A_:z7 K mg "_law_query" xN f fd)(ag:DefOk P w K mg base "_law_drawn" 2 3 ["_law_script", "_law_k", "_law_many"] zu)(aJ:DefOk P w K mg base "_law_mark" 1 1 ["_law_sign"] xJ)(ad:mg "range" = none)(ab:mg "len" = none)(ak:mg "min" = none):DefOk P w K mg base "_law_query" 3 4 ["_law_script", "_law_at", "_law_name_here", "_law_most"] xS:=by
 refine DefOk.mk (k:=2) A_ sc__law_query rfl (fun _ _ _ _ _ _ us hl=>by obtain⟨_,_,_,_,rfl⟩:=lnz4 hl;rfl) (fun cdv A outer s H E hr=>?_) fun _ _ _ h=>h
 exact(zm (yh (i:=4) sc__law_query.nd rfl (Or.inl rfl) vO) (zm (yh (i:=5) sc__law_query.nd rfl (Or.inl rfl) zn) (zm (w6 PassesOwn.never rfl (wR rfl ad (zc (zN ag (hr.mono (by decide)) (zc (zb (pv 0)) (zc (zb (pv 1)) (zc (zB zR (zb (pv 3)) zn) zk))) (zg (zg (zg zr)))) zk)) (yB sc__law_query.nd rfl (Or.inl rfl)) (zm (yh (i:=5) sc__law_query.nd rfl (Or.inl rfl) (zL (Ur rfl) rfl ak boot_min (zc (zB ul (zL yT rfl ab PySem.boot_len (zc (zb (pv 2)) zk)) zn) (zc (zB zR (zb (pv 5)) (zN ag (hr.mono (by decide)) (zc (zb (pv 0)) (zc (zB zR (zB zR (zb (pv 1)) zn) (zB vw zn (zb (pv 6)))) (zc zn zk))) (zg (zg (zg zr))))) zk)))) (zm (yh (i:=7) sc__law_query.nd rfl (Or.inl rfl) (Mp (V3 (XN (zb (pv 2)) (vZ (zb (pv 5))) (vZ (zB zR (zb (pv 5)) zn))) (ZV vO)))) (zm (yh (i:=5) sc__law_query.nd rfl (Or.inl rfl) (zB zR (zb (pv 5)) zn)) (zm (y8 (yg (wS hr.units) (zN ag (hr.mono (by decide)) (zc (zb (pv 0)) (zc (zB zR (zB zR (zb (pv 1)) zn) (zB vw zn (zb (pv 6)))) (zc zn zk))) (zg (zg (zg zr)))) zn (yt _)) (zq (yh (i:=7) sc__law_query.nd rfl (Or.inl rfl) (yk yS vO (zN ag (hr.mono (by decide)) (zc (zb (pv 0)) (zc (zB zR (zB zR (zb (pv 1)) zn) (zB vw zn (zb (pv 6)))) (zc zn zk))) (zg (zg (zg zr))))))) zY) (zq (y8 (uZ (wM (zN aJ (hr.mono (by decide)) (zc (zb (pv 7)) zk) (zg zr)))) (zq (yh (i:=4) sc__law_query.nd rfl (Or.inl rfl) (zB zR (zb (pv 4)) (zb (pv 7))))) zY))))))) (zq (zP (zb (pv 4)))))))
noncomputable abbrev yW:Stmt:=vR (top 40) 0
theorem Zl:zD ["self", "names"] ["self", "names"] (zh yW):=⟨rfl,rfl,rfl,by decide +kernel,rfl,by decide +kernel,by decide +kernel⟩
theorem Zs{C_Seeker:Addr}(aa:ClsAt K mg "Seeker" C_Seeker)(aj:NoAttr K C_Seeker "looks")(ae:NoAttr K C_Seeker "levels")(af:NoAttr K C_Seeker "query")(ah:NoAttr K C_Seeker "names")(ab:mg "len" = none)(ai:mg "list" = none)(ad:mg "range" = none){f:Addr}{fd:FuncData}(M_:Mk K C_Seeker f)(D_:Fun K "__init__" "Seeker.__init__" yW f fd):ClsM P w K mg base "Seeker" 1 1 ["self", "names"] yi:=by
 refine ClsM.mk (k:=0) aa M_ D_ Zl rfl (fun _ _ _ _ _ _ us hl=>by obtain⟨_,_,rfl⟩:=lnz2 hl;rfl) (fun cdv A outer s H E hr=>?_)
 exact(zm (ze8 (pv 0) aa.ns aa.cls ah (Mi rfl ai (zb (pv 1))) (by decide +kernel)) (zm (V0 (pv 0) aa.ns aa.cls af vO (by decide +kernel)) (zm (TR (pv 0) aa.ns aa.cls ae (vH rfl rfl ai rfl ad (zc (zL yT rfl ab PySem.boot_len (zc (zb (pv 1)) zk)) zk)) (by decide +kernel)) (zq (V0 (pv 0) aa.ns aa.cls aj zn (by decide +kernel))))))
noncomputable abbrev vn:Stmt:=top 34
theorem UN:zD ["names", "rows"] ["names", "rows"] (zh vn):=⟨rfl,rfl,rfl,by decide +kernel,rfl,by decide +kernel,by decide +kernel⟩
theorem U6{f c:Addr}(A_:QH K mg "in_order" vn f c 145)(bm:BM mg base)(ab:mg "len" = none)(ar:mg "sorted" = none):DefOk P w K mg base "in_order" 4 2 ["names", "rows"] ww:=by
 refine DefOk.mkL (k:=3) A_ UN rfl (fun _ _ _ _ _ _ us hl=>by obtain⟨_,_,rfl⟩:=lnz2 hl;rfl) (fun A outer s H E hr=>?_)
 exact(zq (zP (Mo (P:=145) (p := "row") (fr:=["names"]) (idx:=[0]) rfl ar boot_sorted (zb (pv 1)) (hr.mono (by decide)) (TabsU.of (by decide)) bm rfl A_.tab (.head _) rfl ⟨rfl,rfl,trivial⟩ rfl rfl rfl (fun _ _ _ _ _=>rfl) (fun s H f cd=>(u0 (zc (wF (yk yS (zb (pv 0)) zn)) (zc (zL yT rfl ab PySem.boot_len (zc (yk yS (zb (pv 1)) (yk yS (zb (pv 0)) zn)) zk)) (zc (yk yS (zb (pv 0)) zn) zk))))))))
noncomputable abbrev xM:Stmt:=top 35
theorem Wz:zD ["names", "rows", "many"] ["names", "rows", "many"] (zh xM):=⟨rfl,rfl,rfl,by decide +kernel,rfl,by decide +kernel,by decide +kernel⟩
theorem WD{f:Addr}{fd:FuncData}(A_:z7 K mg "first_rows" xM f fd)(aK:DefOk P w K mg base "in_order" 4 2 ["names", "rows"] ww)(aL:mg "max" = none):DefN P w K mg base "first_rows" 5 3 ["names", "rows", "many"] xh:=by
 refine DefN.mk (k:=4) A_ Wz rfl (fun _ _ _ _ _ _ us hl=>by obtain⟨_,_,_,rfl⟩:=lnz3 hl;rfl) (fun cdv A outer s H E hr=>?_)
 exact(zq (UX (zp5 (zN aK (hr.mono (by decide)) (zc (zb (pv 0)) (zc (zb (pv 1)) zk)) (zg (zg zr))) jw (vZ (zL (zj6 rfl) rfl aL boot_max (zc (zb (pv 2)) (zc zn zk)))))))
noncomputable abbrev yA:Stmt:=top 23
theorem sc_beginning_points:zD ["name", "place", "ahead"] ["name", "place"] (zh yA):=⟨rfl,rfl,rfl,by decide +kernel,rfl,by decide +kernel,by decide +kernel⟩
theorem j7{f:Addr}{fd:FuncData}(A_:z7 K mg "beginning_points" yA f fd){t_FIGURES:Tok}(au:mg "FIGURES" = some (.str "0123456789" t_FIGURES)){t_SMALL:Tok}(al:mg "SMALL" = some (.str "abcdefghijklmnopqrstuvwxyz" t_SMALL)){t_GREAT:Tok}(av:mg "GREAT" = some (.str "ABCDEFGHIJKLMNOPQRSTUVWXYZ" t_GREAT)){t_AT_GREAT:Tok}(aM:mg "AT_GREAT" = some (.int 5 t_AT_GREAT)){t_MARKS:Tok}(aN:mg "MARKS" = some (.str "_-./" t_MARKS)){t_BEHIND_MARK:Tok}(aO:mg "BEHIND_MARK" = some (.int 6 t_BEHIND_MARK)){t_AT_BEGINNING:Tok}(aP:mg "AT_BEGINNING" = some (.int 8 t_AT_BEGINNING)):DefOk P w K mg base "beginning_points" 1 2 ["name", "place"] yN:=by
 refine DefOk.mk (k:=0) A_ sc_beginning_points rfl (fun _ _ _ _ _ _ us hl=>by obtain⟨_,_,rfl⟩:=lnz2 hl;rfl) (fun cdv A outer s H E hr=>?_) fun _ _ _ h=>h
 exact(zm (y8 (yg (wS hr.units) (zb (pv 1)) zn (yt _)) (zq (zP (vP rfl aP))) zY) (zm (yh (i:=2) sc_beginning_points.nd rfl (Or.inl rfl) (yk yS (zb (pv 0)) (zB ul (zb (pv 1)) zn))) (zm (y8 (yg (u7 (vt hr)) (zb (pv 2)) (uh rfl aN) (by with_unfolding_all rfl)) (zq (zP (vP rfl aO))) zY) (zm (y8 (YR (VZ (yg (u7 (vt hr)) (yk yS (zb (pv 0)) (zb (pv 1))) (uh rfl av) (by with_unfolding_all rfl)) (XI (YR (XH (yg (u7 (vt hr)) (zb (pv 2)) (uh rfl al) (by with_unfolding_all rfl)) (ZR (yg (u7 (vt hr)) (zb (pv 2)) (uh rfl au) (by with_unfolding_all rfl)))))))) (zq (zP (vP rfl aM))) zY) (zq (zP zn))))))
noncomputable abbrev xL:Stmt:=top 24
theorem sc_own_points:zD ["sign", "name", "place", "same"] ["sign", "name", "place"] (zh xL):=⟨rfl,rfl,rfl,by decide +kernel,rfl,by decide +kernel,by decide +kernel⟩
theorem WC{f:Addr}{fd:FuncData}(A_:z7 K mg "own_points" xL f fd)(aQ:DefOk P w K mg base "beginning_points" 1 2 ["name", "place"] yN){t_EACH_PLACE:Tok}(aR:mg "EACH_PLACE" = some (.int 10 t_EACH_PLACE)){t_SAME_SIGN:Tok}(aS:mg "SAME_SIGN" = some (.int 1 t_SAME_SIGN)):DefOk P w K mg base "own_points" 2 3 ["sign", "name", "place"] yH:=by
 refine DefOk.mk (k:=1) A_ sc_own_points rfl (fun _ _ _ _ _ _ us hl=>by obtain⟨_,_,_,rfl⟩:=lnz3 hl;rfl) (fun cdv A outer s H E hr=>?_) fun _ _ _ h=>h
 exact(zm (yh (i:=3) sc_own_points.nd rfl (Or.inl rfl) (zp6 (yg (wS hr.units) (yk yS (zb (pv 1)) (zb (pv 2))) (zb (pv 0)) (yt _)) (vP rfl aS) zn)) (zq (zP (zB zR (zB zR (vP rfl aR) (zN aQ (hr.mono (by decide)) (zc (zb (pv 1)) (zc (zb (pv 2)) zk)) (zg (zg zr)))) (zb (pv 3))))))
noncomputable abbrev uW:Stmt:=top 11
theorem Tq:zD ["sign", "other"] ["sign", "other"] (zh uW):=⟨rfl,rfl,rfl,by decide +kernel,rfl,by decide +kernel,by decide +kernel⟩
theorem Lb{f:Addr}{fd:FuncData}(A_:z7 K mg "meets" uW f fd){t_SMALL:Tok}(al:mg "SMALL" = some (.str "abcdefghijklmnopqrstuvwxyz" t_SMALL)):DefOk P w K mg base "meets" 1 2 ["sign", "other"] wc:=by
 refine DefOk.mk (k:=0) A_ Tq rfl (fun _ _ _ _ _ _ us hl=>by obtain⟨_,_,rfl⟩:=lnz2 hl;rfl) (fun cdv A outer s H E hr=>?_) fun _ _ _ h=>h
 exact(zq (zP (V3 (va (wS hr.units) (zb (pv 0)) (zb (pv 1)) (yt _)) (ZV (Gc (va (u7 (vt hr)) (zb (pv 0)) (uh rfl al) (by with_unfolding_all rfl)) (ZV (va (wS hr.units) (Mn (zb (pv 0))) (zb (pv 1)) (yt _))))))))
noncomputable abbrev yE:Stmt:=top 28
theorem Zk:zD ["sign", "name"] ["sign", "name"] (zh yE):=⟨rfl,rfl,rfl,by decide +kernel,rfl,by decide +kernel,by decide +kernel⟩
theorem Zq{f:Addr}{fd:FuncData}(A_:z7 K mg "last_sign_tails" yE f fd)(am:DefOk P w K mg base "meets" 1 2 ["sign", "other"] wc)(aw:DefOk P w K mg base "own_points" 2 3 ["sign", "name", "place"] yH)(ab:mg "len" = none)(ad:mg "range" = none):DefOk P w K mg base "last_sign_tails" 3 2 ["sign", "name"] yv:=by
 refine DefOk.mk (k:=2) A_ Zk rfl (fun _ _ _ _ _ _ us hl=>by obtain⟨_,_,rfl⟩:=lnz2 hl;rfl) (fun cdv A outer s H E hr=>?_) fun _ _ _ h=>h
 exact(zq (zP (jy (uJ (tn:=["place"]) (fr:=["sign", "name"]) (idx:=[0,1]) rfl rfl ⟨rfl,rfl,⟨rfl,rfl,trivial⟩⟩ (vz 0) (PDI.h (wR rfl ad (zc (zL yT rfl ab PySem.boot_len (zc (zb (pv 1)) zk)) zk))) (fun s H C fp=>(yB (show List.Nodup (["place", "sign", "name"]:List Str) by decide +kernel) rfl (Or.inl rfl))) (fun s H C fp=>(uI (wM (zN am (hr.mono (by decide)) (zc (zb (pv 1)) (zc (yk yS (zb (pv 2)) (zb (pv 0))) zk)) (zg (zg zr)))))) (fun s H C fp=>(u0 (zc (zN aw (hr.mono (by decide)) (zc (zb (pv 1)) (zc (zb (pv 2)) (zc (zb (pv 0)) zk))) (zg (zg (zg zr)))) (zc (u3 (zc (zb (pv 0)) zk)) zk))))))))
noncomputable abbrev yZ:Stmt:=top 27
theorem sc_first_of_most:zD ["tails", "chosen", "tail"] ["tails"] (zh yZ):=⟨rfl,rfl,rfl,by decide +kernel,rfl,by decide +kernel,by decide +kernel⟩
theorem YA{f:Addr}{fd:FuncData}(A_:z7 K mg "first_of_most" yZ f fd):DefOk P w K mg base "first_of_most" 1 1 ["tails"] zW:=by
 refine DefOk.mk (k:=0) A_ sc_first_of_most rfl (fun _ _ _ _ _ _ us hl=>by obtain⟨_,rfl⟩:=lnz1 hl;rfl) (fun cdv A outer s H E hr=>?_) fun _ _ _ h=>h
 exact(zm (yh (i:=1) sc_first_of_most.nd rfl (Or.inl rfl) Xj) (zm (w6 PassesOwn.never rfl (vv (zb (pv 0))) (yB sc_first_of_most.nd rfl (Or.inl rfl)) (zq (y8 (YR (XH (yg zp9 (zb (pv 1)) Xj (yt _)) (ZR (yg J9 (yk yS (zb (pv 2)) zn) (yk yS (zb (pv 1)) zn) (yt _))))) (zq (yh (i:=1) sc_first_of_most.nd rfl (Or.inl rfl) (zb (pv 2)))) zY))) (zq (zP (zb (pv 1))))))
noncomputable abbrev xx:Stmt:=top 26
theorem sc_link_points:zD ["ahead", "place", "between"] ["ahead", "place"] (zh xx):=⟨rfl,rfl,rfl,by decide +kernel,rfl,by decide +kernel,by decide +kernel⟩
theorem XT{f:Addr}{fd:FuncData}(A_:z7 K mg "link_points" xx f fd){t_MOST_BETWEEN:Tok}(aT:mg "MOST_BETWEEN" = some (.int 5 t_MOST_BETWEEN)){t_BESIDE:Tok}(aU:mg "BESIDE" = some (.int 7 t_BESIDE))(ak:mg "min" = none):DefOk P w K mg base "link_points" 1 2 ["ahead", "place"] xA:=by
 refine DefOk.mk (k:=0) A_ sc_link_points rfl (fun _ _ _ _ _ _ us hl=>by obtain⟨_,_,rfl⟩:=lnz2 hl;rfl) (fun cdv A outer s H E hr=>?_) fun _ _ _ h=>h
 exact(zm (yh (i:=2) sc_link_points.nd rfl (Or.inl rfl) (zB ul (zB ul (zb (pv 1)) (zb (pv 0))) zn)) (zm (y8 (yg (wS hr.units) (zb (pv 2)) zn (yt _)) (zq (zP (vP rfl aU))) zY) (zq (zP (wF (zL (Ur rfl) rfl ak boot_min (zc (zb (pv 2)) (zc (vP rfl aT) zk))))))))
noncomputable abbrev xk:Stmt:=top 29
theorem Y8:zD ["place", "tails"] ["place", "tails"] (zh xk):=⟨rfl,rfl,rfl,by decide +kernel,rfl,by decide +kernel,by decide +kernel⟩
theorem Xb{f:Addr}{fd:FuncData}(A_:z7 K mg "linked_tails" xk f fd)(aV:DefOk P w K mg base "link_points" 1 2 ["ahead", "place"] xA):DefOk P w K mg base "linked_tails" 2 2 ["place", "tails"] yR:=by
 refine DefOk.mk (k:=1) A_ Y8 rfl (fun _ _ _ _ _ _ us hl=>by obtain⟨_,_,rfl⟩:=lnz2 hl;rfl) (fun cdv A outer s H E hr=>?_) fun _ _ _ h=>h
 exact(zq (zP (jy (uJ (tn:=["tail"]) (fr:=["place"]) (idx:=[0]) rfl rfl ⟨rfl,rfl,trivial⟩ (vz 0) (PDI.h (vv (zb (pv 1)))) (fun s H C fp=>(yB (show List.Nodup (["tail", "place"]:List Str) by decide +kernel) rfl (Or.inl rfl))) (fun s H C fp=>(uI (yg J9 (yk yS (yk yS (zb (pv 0)) zn) zn) (zb (pv 1)) (yt _)))) (fun s H C fp=>(u0 (zc (zB zR (yk yS (zb (pv 0)) zn) (zN aV (hr.mono (by decide)) (zc (zb (pv 1)) (zc (yk yS (yk yS (zb (pv 0)) zn) zn) zk)) (zg (zg zr)))) (zc (yk yS (zb (pv 0)) zn) zk))))))))
noncomputable abbrev xj:Stmt:=top 30
theorem sc_longer_tails:zD ["sign", "name", "tails", "longer", "place", "chosen"] ["sign", "name", "tails"] (zh xj):=⟨rfl,rfl,rfl,by decide +kernel,rfl,by decide +kernel,by decide +kernel⟩
theorem Xa{f:Addr}{fd:FuncData}(A_:z7 K mg "longer_tails" xj f fd)(am:DefOk P w K mg base "meets" 1 2 ["sign", "other"] wc)(aw:DefOk P w K mg base "own_points" 2 3 ["sign", "name", "place"] yH)(aW:DefOk P w K mg base "linked_tails" 2 2 ["place", "tails"] yR)(ax:DefOk P w K mg base "first_of_most" 1 1 ["tails"] zW)(ab:mg "len" = none)(ad:mg "range" = none):DefOk P w K mg base "longer_tails" 3 3 ["sign", "name", "tails"] xn:=by
 refine DefOk.mk (k:=2) A_ sc_longer_tails rfl (fun _ _ _ _ _ _ us hl=>by obtain⟨_,_,_,rfl⟩:=lnz3 hl;rfl) (fun cdv A outer s H E hr=>?_) fun _ _ _ h=>h
 exact(zm (XJ (i:=3) sc_longer_tails.nd rfl (Or.inl rfl) (V2 zk)) (zm (w6 PassesOwn.never rfl (wR rfl ad (zc (zL yT rfl ab PySem.boot_len (zc (zb (pv 1)) zk)) zk)) (yB sc_longer_tails.nd rfl (Or.inl rfl)) (zq (y8 (wM (zN am (hr.mono (by decide)) (zc (zb (pv 0)) (zc (yk yS (zb (pv 1)) (zb (pv 4))) zk)) (zg (zg zr)))) (zm (yh (i:=5) sc_longer_tails.nd rfl (Or.inl rfl) (zN ax (hr.mono (by decide)) (zc (zN aW (hr.mono (by decide)) (zc (zb (pv 4)) (zc (zb (pv 2)) zk)) (zg (zg zr))) zk) (zg zr))) (zq (y8 (yg Vd (zb (pv 5)) Xj (yt _)) (zq (V1 (pv 3) (u0 (zc (zB zR (zN aw (hr.mono (by decide)) (zc (zb (pv 0)) (zc (zb (pv 1)) (zc (zb (pv 4)) zk))) (zg (zg (zg zr)))) (yk yS (zb (pv 5)) zn)) (zc (zB zR (u3 (zc (zb (pv 4)) zk)) (yk yS (zb (pv 5)) zn)) zk))))) zY))) zY))) (zq (ZT (pv 3)))))
noncomputable abbrev xz:Stmt:=top 25
theorem Xx:zD ["place"] ["place"] (zh xz):=⟨rfl,rfl,rfl,by decide +kernel,rfl,by decide +kernel,by decide +kernel⟩
theorem XU{f:Addr}{fd:FuncData}(A_:z7 K mg "lead_points" xz f fd){t_MOST_AHEAD:Tok}(aX:mg "MOST_AHEAD" = some (.int 3 t_MOST_AHEAD))(ak:mg "min" = none):DefOk P w K mg base "lead_points" 1 1 ["place"] xg:=by
 refine DefOk.mk (k:=0) A_ Xx rfl (fun _ _ _ _ _ _ us hl=>by obtain⟨_,rfl⟩:=lnz1 hl;rfl) (fun cdv A outer s H E hr=>?_) fun _ _ _ h=>h
 exact(zq (zP (wF (zL (Ur rfl) rfl ak boot_min (zc (zb (pv 0)) (zc (vP rfl aX) zk))))))
noncomputable abbrev Zn:Stmt:=top 31
theorem sc_best:zD ["query", "name", "tails", "number"] ["query", "name"] (zh Zn):=⟨rfl,rfl,rfl,by decide +kernel,rfl,by decide +kernel,by decide +kernel⟩
theorem zf7{f:Addr}{fd:FuncData}(A_:z7 K mg "best" Zn f fd)(aY:DefOk P w K mg base "lead_points" 1 1 ["place"] xg)(ax:DefOk P w K mg base "first_of_most" 1 1 ["tails"] zW)(aZ:DefOk P w K mg base "longer_tails" 3 3 ["sign", "name", "tails"] xn)(ba:DefOk P w K mg base "last_sign_tails" 3 2 ["sign", "name"] yv)(ab:mg "len" = none)(ad:mg "range" = none):DefOk P w K mg base "best" 4 2 ["query", "name"] uA:=by
 refine DefOk.mk (k:=3) A_ sc_best rfl (fun _ _ _ _ _ _ us hl=>by obtain⟨_,_,rfl⟩:=lnz2 hl;rfl) (fun cdv A outer s H E hr=>?_) fun _ _ _ h=>h
 exact(zm (y8 (yg (wS hr.units) (zL yT rfl ab PySem.boot_len (zc (zb (pv 0)) zk)) zn (yt _)) (zq (zP (u0 (zc zn (zc (u3 zk) zk))))) zY) (zm (yh (i:=2) sc_best.nd rfl (Or.inl rfl) (zN ba (hr.mono (by decide)) (zc (yk yS (zb (pv 0)) (wF zn)) (zc (zb (pv 1)) zk)) (zg (zg zr)))) (zm (w6 PassesOwn.never rfl (J5 rfl ad (zc (zB ul (zL yT rfl ab PySem.boot_len (zc (zb (pv 0)) zk)) zn) (zc (wF zn) (zc (wF zn) zk)))) (yB sc_best.nd rfl (Or.inl rfl)) (zq (yh (i:=2) sc_best.nd rfl (Or.inl rfl) (zN aZ (hr.mono (by decide)) (zc (yk yS (zb (pv 0)) (zb (pv 3))) (zc (zb (pv 1)) (zc (zb (pv 2)) zk))) (zg (zg (zg zr))))))) (zq (zP (zN ax (hr.mono (by decide)) (zc (jy (uJ (tn:=["tail"]) (fr:=[]) (idx:=[]) rfl rfl trivial (vz 0) (PDI.h (vv (zb (pv 2)))) (fun s H C fp=>(yB (show List.Nodup (["tail"]:List Str) by decide +kernel) rfl (Or.inl rfl))) (fun s H C fp=>ZS) (fun s H C fp=>(u0 (zc (zB zR (yk yS (zb (pv 0)) zn) (zN aY (hr.mono (by decide)) (zc (yk yS (yk yS (zb (pv 0)) zn) zn) zk) (zg zr))) (zc (yk yS (zb (pv 0)) zn) zk)))))) zk) (zg zr)))))))
noncomputable abbrev xl:Stmt:=top 33
theorem sc_fitting_rows:zD ["names", "query", "numbers", "rows", "number", "laid"] ["names", "query", "numbers"] (zh xl):=⟨rfl,rfl,rfl,by decide +kernel,rfl,by decide +kernel,by decide +kernel⟩
theorem Xc{f:Addr}{fd:FuncData}(A_:z7 K mg "fitting_rows" xl f fd)(bb:DefOk P w K mg base "best" 4 2 ["query", "name"] uA):DefOk P w K mg base "fitting_rows" 5 3 ["names", "query", "numbers"] yb:=by
 refine DefOk.mk (k:=4) A_ sc_fitting_rows rfl (fun _ _ _ _ _ _ us hl=>by obtain⟨_,_,_,rfl⟩:=lnz3 hl;rfl) (fun cdv A outer s H E hr=>?_) fun _ _ _ h=>h
 exact(zm (XJ (i:=3) sc_fitting_rows.nd rfl (Or.inl rfl) (V2 zk)) (zm (w6 PassesOwn.never rfl (vv (zb (pv 2))) (yB sc_fitting_rows.nd rfl (Or.inl rfl)) (zm (yh (i:=5) sc_fitting_rows.nd rfl (Or.inl rfl) (zN bb (hr.mono (by decide)) (zc (zb (pv 1)) (zc (yk yS (zb (pv 0)) (zb (pv 4))) zk)) (zg (zg zr)))) (zq (y8 (yg Vd (zb (pv 5)) Xj (yt _)) (zq (V1 (pv 3) (u0 (zc (yk yS (zb (pv 5)) zn) (zc (zb (pv 4)) zk))))) zY)))) (zq (ZT (pv 3)))))
noncomputable abbrev wQ:Stmt:=top 36
theorem UO:zD ["names", "query"] ["names", "query"] (zh wQ):=⟨rfl,rfl,rfl,by decide +kernel,rfl,by decide +kernel,by decide +kernel⟩
theorem U7{f:Addr}{fd:FuncData}(A_:z7 K mg "all_rows" wQ f fd)(ay:DefOk P w K mg base "fitting_rows" 5 3 ["names", "query", "numbers"] yb)(ab:mg "len" = none)(ai:mg "list" = none)(ad:mg "range" = none):DefOk P w K mg base "all_rows" 6 2 ["names", "query"] wy:=by
 refine DefOk.mk (k:=5) A_ UO rfl (fun _ _ _ _ _ _ us hl=>by obtain⟨_,_,rfl⟩:=lnz2 hl;rfl) (fun cdv A outer s H E hr=>?_) fun _ _ _ h=>h
 exact(zq (zP (zN ay (hr.mono (by decide)) (zc (zb (pv 0)) (zc (zb (pv 1)) (zc (jy (vH rfl rfl ai rfl ad (zc (zL yT rfl ab PySem.boot_len (zc (zb (pv 0)) zk)) zk))) zk))) (zg (zg (zg zr))))))
noncomputable abbrev uX:Stmt:=top 37
theorem Tr:zD ["names", "query", "many"] ["names", "query", "many"] (zh uX):=⟨rfl,rfl,rfl,by decide +kernel,rfl,by decide +kernel,by decide +kernel⟩
theorem Lc{f:Addr}{fd:FuncData}(A_:z7 K mg "finds" uX f fd)(bc:DefOk P w K mg base "all_rows" 6 2 ["names", "query"] wy)(be:DefOk P w K mg base "first_rows" 5 3 ["names", "rows", "many"] xR):DefOk P w K mg base "finds" 7 3 ["names", "query", "many"] wN:=by
 refine DefOk.mk (k:=6) A_ Tr rfl (fun _ _ _ _ _ _ us hl=>by obtain⟨_,_,_,rfl⟩:=lnz3 hl;rfl) (fun cdv A outer s H E hr=>?_) fun _ _ _ h=>h
 exact(zq (zP (zN be (hr.mono (by decide)) (zc (zb (pv 0)) (zc (zN bc (hr.mono (by decide)) (zc (zb (pv 0)) (zc (zb (pv 1)) zk)) (zg (zg zr))) (zc (zb (pv 2)) zk))) (zg (zg (zg zr))))))
noncomputable abbrev yF:Stmt:=top 12
theorem sc_earliest_places:zD ["query", "name", "places", "place"] ["query", "name"] (zh yF):=⟨rfl,rfl,rfl,by decide +kernel,rfl,by decide +kernel,by decide +kernel⟩
theorem Zr{f:Addr}{fd:FuncData}(A_:z7 K mg "earliest_places" yF f fd)(am:DefOk P w K mg base "meets" 1 2 ["sign", "other"] wc)(ab:mg "len" = none)(ad:mg "range" = none):DefOk P w K mg base "earliest_places" 2 2 ["query", "name"] yX:=by
 refine DefOk.mk (k:=1) A_ sc_earliest_places rfl (fun _ _ _ _ _ _ us hl=>by obtain⟨_,_,rfl⟩:=lnz2 hl;rfl) (fun cdv A outer s H E hr=>?_) fun _ _ _ h=>h
 exact(zm (XJ (i:=2) sc_earliest_places.nd rfl (Or.inl rfl) (V2 zk)) (zm (w6 PassesOwn.never rfl (wR rfl ad (zc (zL yT rfl ab PySem.boot_len (zc (zb (pv 1)) zk)) zk)) (yB sc_earliest_places.nd rfl (Or.inl rfl)) (zq (y8 (YR (VZ (yg zp8 (XO (pv 2) rfl ab) (zL yT rfl ab PySem.boot_len (zc (zb (pv 0)) zk)) (yt _)) (XI (wM (zN am (hr.mono (by decide)) (zc (yk yS (zb (pv 0)) (XO (pv 2) rfl ab)) (zc (yk yS (zb (pv 1)) (zb (pv 3))) zk)) (zg (zg zr))))))) (zq (V1 (pv 2) (zb (pv 3)))) zY))) (zq (ZT (pv 2)))))
noncomputable abbrev Zm:Stmt:=top 13
theorem zc7:zD ["query", "name"] ["query", "name"] (zh Zm):=⟨rfl,rfl,rfl,by decide +kernel,rfl,by decide +kernel,by decide +kernel⟩
theorem zf6{f:Addr}{fd:FuncData}(A_:z7 K mg "fits" Zm f fd)(bf:DefOk P w K mg base "earliest_places" 2 2 ["query", "name"] yX)(ab:mg "len" = none):DefOk P w K mg base "fits" 3 2 ["query", "name"] wx:=by
 refine DefOk.mk (k:=2) A_ zc7 rfl (fun _ _ _ _ _ _ us hl=>by obtain⟨_,_,rfl⟩:=lnz2 hl;rfl) (fun cdv A outer s H E hr=>?_) fun _ _ _ h=>h
 exact(zq (zP (va (wS hr.units) (zL yT rfl ab PySem.boot_len (zc (zN bf (hr.mono (by decide)) (zc (zb (pv 0)) (zc (zb (pv 1)) zk)) (zg (zg zr))) zk)) (zL yT rfl ab PySem.boot_len (zc (zb (pv 0)) zk)) (yt _))))
noncomputable abbrev wC:Stmt:=vR (top 40) 5
theorem WA:zD ["self", "many"] ["self", "many"] (zh wC):=⟨rfl,rfl,rfl,by decide +kernel,rfl,by decide +kernel,by decide +kernel⟩
theorem WH{C_Seeker:Addr}(aa:ClsAt K mg "Seeker" C_Seeker)(ae:NoAttr K C_Seeker "levels")(af:NoAttr K C_Seeker "query")(ah:NoAttr K C_Seeker "names")(ay:DefOk P w K mg base "fitting_rows" 5 3 ["names", "query", "numbers"] yb)(aE:DefN P w K mg base "first_rows" 5 3 ["names", "rows", "many"] xh){f:Addr}{fd:FuncData}(M_:ZE K C_Seeker "now" f)(D_:Fun K "now" "Seeker.now" wC f fd):MetR P w K mg base "Seeker" "now" 6 1 ["self", "many"] yP:=by
 refine MetR.mk (k:=5) aa M_ D_ WA rfl (fun _ _ _ _ _ _ us hl=>by obtain⟨_,_,rfl⟩:=lnz2 hl;rfl) (fun cdv A outer s H E hr=>?_)
 exact(zq (zP (jy (Mm (i:=0) (c := "Seeker") aE (hr.mono (by decide)) (uK (Q9 (pv 0) aa.ns aa.cls ah (by decide +kernel)) (uK (ze9 ay (hr.mono (by decide)) (uK (Q9 (pv 0) aa.ns aa.cls ah (by decide +kernel)) (uK (J4 (uw (pv 0) aa.ns aa.cls af (by decide +kernel))) (uK (Ga (pv 0) aa.ns aa.cls ae (wF zn) (by decide +kernel)) Gd))) (zg (zg (zg zr)))) (uK (J4 (zb (pv 1))) Gd))) (zg (zg (zg zr)))))))
noncomputable abbrev xE:Stmt:=vR (top 40) 3
theorem Y9:zD ["self"] ["self"] (zh xE):=⟨rfl,rfl,rfl,by decide +kernel,rfl,by decide +kernel,by decide +kernel⟩
theorem Xd{C_Seeker:Addr}(aa:ClsAt K mg "Seeker" C_Seeker)(af:NoAttr K C_Seeker "query"){f:Addr}{fd:FuncData}(M_:ZE K C_Seeker "typed" f)(D_:Fun K "typed" "Seeker.typed" xE f fd):MetR P w K mg base "Seeker" "typed" 1 0 ["self"] xG:=by
 refine MetR.mk (k:=0) aa M_ D_ Y9 rfl (fun _ _ _ _ _ _ us hl=>by obtain⟨_,rfl⟩:=lnz1 hl;rfl) (fun cdv A outer s H E hr=>?_)
 exact(zq (zP (uw (pv 0) aa.ns aa.cls af (by decide +kernel))))
noncomputable abbrev xi:Stmt:=vR (top 40) 4
theorem ZJ:zD ["self"] ["self"] (zh xi):=⟨rfl,rfl,rfl,by decide +kernel,rfl,by decide +kernel,by decide +kernel⟩
theorem Z0{C_Seeker:Addr}(aa:ClsAt K mg "Seeker" C_Seeker)(ae:NoAttr K C_Seeker "levels")(ai:mg "list" = none){f:Addr}{fd:FuncData}(M_:ZE K C_Seeker "fitting" f)(D_:Fun K "fitting" "Seeker.fitting" xi f fd):MetR P w K mg base "Seeker" "fitting" 1 0 ["self"] zJ:=by
 refine MetR.mk (k:=0) aa M_ D_ ZJ rfl (fun _ _ _ _ _ _ us hl=>by obtain⟨_,rfl⟩:=lnz1 hl;rfl) (fun cdv A outer s H E hr=>?_)
 exact(zq (zP (jy (Mj (pv 0) aa.ns aa.cls ae (wF zn) rfl ai (by decide +kernel)))))
noncomputable abbrev y0:Stmt:=top 48
theorem sc__law_is_right:zD ["_law_seeker", "_law_names_here", "_law_query_here", "_law_due"] ["_law_seeker", "_law_names_here", "_law_query_here"] (zh y0):=⟨rfl,rfl,rfl,by decide +kernel,rfl,by decide +kernel,by decide +kernel⟩
theorem YB{f:Addr}{fd:FuncData}(D_:z7 K mg "_law_is_right" y0 f fd)(az:MetR P w K mg base "Seeker" "now" 6 1 ["self", "many"] yP)(aq:MetR P w K mg base "Seeker" "fitting" 1 0 ["self"] zJ)(bg:MetR P w K mg base "Seeker" "typed" 1 0 ["self"] xG)(aA:DefOk P w K mg base "finds" 7 3 ["names", "query", "many"] wN)(ao:DefOk P w K mg base "fits" 3 2 ["query", "name"] wx)(bi:mg "enumerate" = none):DefR P w K mg base "_law_is_right" "Seeker" 8 0 2 ["_law_seeker", "_law_names_here", "_law_query_here"] zO:=by
 refine DefR.mk (k:=7) D_ sc__law_is_right rfl (fun _ _ _ _ _ _ us hl=>by obtain⟨_,_,_,rfl⟩:=lnz3 hl;rfl) (fun cdv A outer s H E hr=>?_)
 exact(zm (Vb (i:=3) sc__law_is_right.nd rfl rfl rfl (tn:=["_law_k", "_law_name_here"]) (fr:=["_law_query_here"]) (idx:=[2]) rfl rfl ⟨rfl,rfl,trivial⟩ (To 0 1) (PDI.h (TZ rfl bi (zc (zb (pv 1)) zk))) (fun s H C fp=>(T0 rfl (show List.Nodup (["_law_k", "_law_name_here", "_law_query_here"]:List Str) by decide +kernel) rfl (Or.inl rfl) rfl (Or.inl rfl))) (fun s H C fp=>(uI (wM (zN ao (hr.mono (by decide)) (zc (zb (pv 2)) (zc (zb (pv 1)) zk)) (zg (zg zr)))))) (fun s H C fp=>(zb (pv 0)))) (zm (y8 (YR (XH (yg (uy hr.units) (wq bg (hr.mono (by decide)) (pv 0)) (zb (pv 2)) (yt _)) (ZR (yg (uy hr.units) (wq aq (hr.mono (by decide)) (pv 0)) (zb (pv 3)) (yt _))))) (zq (zP jz)) zY) (zq (zP (va (wS hr.units) (Vc az (hr.mono (by decide)) (pv 0) (zc zn zk) (zg zr)) (zN aA (hr.mono (by decide)) (zc (zb (pv 1)) (zc (zb (pv 2)) (zc zn zk))) (zg (zg (zg zr)))) (yt _))))))
noncomputable abbrev vm:Stmt:=top 39
theorem JY:zD ["number", "level"] ["number", "level"] (zh vm):=⟨rfl,rfl,rfl,by decide +kernel,rfl,by decide +kernel,by decide +kernel⟩
theorem Qb{f:Addr}{fd:FuncData}(A_:z7 K mg "without" vm f fd):DefN P w K mg base "without" 1 2 ["number", "level"] xU:=by
 refine DefN.mk (k:=0) A_ JY rfl (fun _ _ _ _ _ _ us hl=>by obtain⟨_,_,rfl⟩:=lnz2 hl;rfl) (fun cdv A outer s H E hr=>?_)
 exact(zq (UX (uJ (tn:=["kept"]) (fr:=["number"]) (idx:=[0]) rfl rfl ⟨rfl,rfl,trivial⟩ (vz 0) (PDI.h (vv (zb (pv 1)))) (fun s H C fp=>(yB (show List.Nodup (["kept", "number"]:List Str) by decide +kernel) rfl (Or.inl rfl))) (fun s H C fp=>(uI (yg (uy hr.units) (zb (pv 0)) (zb (pv 1)) (yt _)))) (fun s H C fp=>(zb (pv 0))))))
noncomputable abbrev x6:Stmt:=vR (top 40) 7
theorem Xy:zD ["self", "number"] ["self", "number"] (zh x6):=⟨rfl,rfl,rfl,by decide +kernel,rfl,by decide +kernel,by decide +kernel⟩
theorem XV{C_Seeker:Addr}(aa:ClsAt K mg "Seeker" C_Seeker)(ae:NoAttr K C_Seeker "levels")(aF:DefN P w K mg base "without" 1 2 ["number", "level"] xU){f:Addr}{fd:FuncData}(M_:ZE K C_Seeker "hide" f)(D_:Fun K "hide" "Seeker.hide" x6 f fd):MetM P w K mg base "Seeker" "hide" 2 1 ["self", "number"] x9:=by
 refine MetM.mk (k:=1) aa M_ D_ Xy rfl (fun _ _ _ _ _ _ us hl=>by obtain⟨_,_,rfl⟩:=lnz2 hl;rfl) (fun cdv A outer s H E hr=>?_)
 exact(zm (y8 (TN (i:=0) (c := "Seeker") (Mq (vt hr)) (J4 (zb (pv 1))) (Ga (pv 0) aa.ns aa.cls ae zn (by decide +kernel)) (by with_unfolding_all rfl)) (zq jU) zY) (zq (TU (kn:=1) (lv := "level") (nm := "number") (pv 0) (pv 0) aa.ns aa.cls ae rfl rfl ⟨rfl,rfl,trivial⟩ (fun s H C fp=>Xh (show List.Nodup (["level", "number"]:List Str) by decide +kernel) rfl (Or.inl rfl)) (fun s H C fp=>TL aF (hr.mono (by decide)) (pv 1) (pv 0)) (by decide +kernel))))
noncomputable abbrev yY:Stmt:=top 10
theorem Yv:zD ["sign"] ["sign"] (zh yY):=⟨rfl,rfl,rfl,by decide +kernel,rfl,by decide +kernel,by decide +kernel⟩
theorem Yz{f:Addr}{fd:FuncData}(A_:z7 K mg "is_query_sign" yY f fd){t_FIGURES:Tok}(au:mg "FIGURES" = some (.str "0123456789" t_FIGURES)){t_GREAT:Tok}(av:mg "GREAT" = some (.str "ABCDEFGHIJKLMNOPQRSTUVWXYZ" t_GREAT)){t_SMALL:Tok}(al:mg "SMALL" = some (.str "abcdefghijklmnopqrstuvwxyz" t_SMALL)):DefOk P w K mg base "is_query_sign" 1 1 ["sign"] y9:=by
 refine DefOk.mk (k:=0) A_ Yv rfl (fun _ _ _ _ _ _ us hl=>by obtain⟨_,rfl⟩:=lnz1 hl;rfl) (fun cdv A outer s H E hr=>?_) fun _ _ _ h=>h
 exact(zq (zP (V3 (va (u7 (vt hr)) (zb (pv 0)) (uh rfl al) (by with_unfolding_all rfl)) (V3 (va (u7 (vt hr)) (zb (pv 0)) (uh rfl av) (by with_unfolding_all rfl)) (ZV (va (u7 (vt hr)) (zb (pv 0)) (uh rfl au) (by with_unfolding_all rfl)))))))
noncomputable abbrev xu:Stmt:=vR (top 40) 1
theorem sc_Seeker_letter:zD ["self", "sign", "ahead"] ["self", "sign"] (zh xu):=⟨rfl,rfl,rfl,by decide +kernel,rfl,by decide +kernel,by decide +kernel⟩
theorem YD{C_Seeker:Addr}(aa:ClsAt K mg "Seeker" C_Seeker)(ah:NoAttr K C_Seeker "names")(af:NoAttr K C_Seeker "query")(ae:NoAttr K C_Seeker "levels")(aj:NoAttr K C_Seeker "looks")(ao:DefOk P w K mg base "fits" 3 2 ["query", "name"] wx)(bj:DefOk P w K mg base "is_query_sign" 1 1 ["sign"] y9){t_LONGEST_QUERY:Tok}(bn:mg "LONGEST_QUERY" = some (.int 8 t_LONGEST_QUERY))(ab:mg "len" = none){f:Addr}{fd:FuncData}(M_:ZE K C_Seeker "letter" f)(D_:Fun K "letter" "Seeker.letter" xu f fd):MetM P w K mg base "Seeker" "letter" 4 1 ["self", "sign"] zQ:=by
 refine MetM.mk (k:=3) aa M_ D_ sc_Seeker_letter rfl (fun _ _ _ _ _ _ us hl=>by obtain⟨_,_,rfl⟩:=lnz2 hl;rfl) (fun cdv A outer s H E hr=>?_)
 exact(zm (y8 (YR (XH (yg (uy hr.units) (zL yT rfl ab PySem.boot_len (zc (zb (pv 1)) zk)) zn (yt _)) (ZR (uZ (wM (zN bj (hr.mono (by decide)) (zc (zb (pv 1)) zk) (zg zr))))))) (zq jU) zY) (zm (y8 (yg zq0 (zL yT rfl ab PySem.boot_len (zc (uw (pv 0) aa.ns aa.cls af (by decide +kernel)) zk)) (vP rfl bn) (yt _)) (zq jU) zY) (zm (V0 (pv 0) aa.ns aa.cls af (zB zR (uw (pv 0) aa.ns aa.cls af (by decide +kernel)) (zb (pv 1))) (by decide +kernel)) (UW (i:=0) (k:=2) sc_Seeker_letter.nd rfl (Or.inl rfl) (by decide) (by decide +kernel) (pv 0) (pv 0) (pv 0) (pv 2) aa.ns aa.cls ae aj (wF zn) (Te (i:=0) (Ml (tn:=["number"]) (fr:=["self"]) (idx:=[0]) rfl rfl ⟨rfl,rfl,trivial⟩ (vz 0) (zf0 (pv 2) (by decide +kernel)) (fun s H C fp=>(yB (show List.Nodup (["number", "self"]:List Str) by decide +kernel) rfl (Or.inl rfl))) (fun s H C fp=>(uI (wM (zN ao (hr.mono (by decide)) (zc (uw (pv 1) aa.ns aa.cls af (by decide +kernel)) (zc (zf2 (pv 1) aa.ns aa.cls ah (zb (pv 0)) (by decide +kernel)) zk)) (zg (zg zr)))))) (fun s H C fp=>(zb (pv 0))))) (zq (XM (U2 (pv 0) aa.ns aa.cls ae (wF zn) rfl ab (by decide +kernel)))) rfl ab (by decide +kernel) (by decide +kernel)))))
noncomputable abbrev xr:Stmt:=vR (top 40) 8
theorem Yw:zD ["self"] ["self"] (zh xr):=⟨rfl,rfl,rfl,by decide +kernel,rfl,by decide +kernel,by decide +kernel⟩
theorem YC{C_Seeker:Addr}(aa:ClsAt K mg "Seeker" C_Seeker)(aj:NoAttr K C_Seeker "looks"){f:Addr}{fd:FuncData}(M_:ZE K C_Seeker "looked" f)(D_:Fun K "looked" "Seeker.looked" xr f fd):MetR P w K mg base "Seeker" "looked" 1 0 ["self"] yc:=by
 refine MetR.mk (k:=0) aa M_ D_ Yw rfl (fun _ _ _ _ _ _ us hl=>by obtain⟨_,rfl⟩:=lnz1 hl;rfl) (fun cdv A outer s H E hr=>?_)
 exact(zq (zP (uw (pv 0) aa.ns aa.cls aj (by decide +kernel))))
noncomputable abbrev x8:Stmt:=vR (top 40) 2
theorem Xz:zD ["self"] ["self"] (zh x8):=⟨rfl,rfl,rfl,by decide +kernel,rfl,by decide +kernel,by decide +kernel⟩
theorem XW{C_Seeker:Addr}(aa:ClsAt K mg "Seeker" C_Seeker)(ae:NoAttr K C_Seeker "levels")(af:NoAttr K C_Seeker "query")(ab:mg "len" = none){f:Addr}{fd:FuncData}(M_:ZE K C_Seeker "back" f)(D_:Fun K "back" "Seeker.back" x8 f fd):MetM P w K mg base "Seeker" "back" 1 0 ["self"] xB:=by
 refine MetM.mk (k:=0) aa M_ D_ Xz rfl (fun _ _ _ _ _ _ us hl=>by obtain⟨_,rfl⟩:=lnz1 hl;rfl) (fun cdv A outer s H E hr=>?_)
 exact(zm (y8 (yg (wS hr.units) (zL yT rfl ab PySem.boot_len (zc (uw (pv 0) aa.ns aa.cls af (by decide +kernel)) zk)) zn (yt _)) (zq jU) zY) (zm (V0 (pv 0) aa.ns aa.cls af (XN (uw (pv 0) aa.ns aa.cls af (by decide +kernel)) jw (vZ (wF zn))) (by decide +kernel)) (zm (TQ (pv 0) aa.ns aa.cls ae (by decide +kernel)) (zq (XM (U2 (pv 0) aa.ns aa.cls ae (wF zn) rfl ab (by decide +kernel)))))))
noncomputable abbrev wD:Stmt:=vR (top 40) 6
theorem sc_Seeker_add:zD ["self", "name", "number", "length"] ["self", "name"] (zh wD):=⟨rfl,rfl,rfl,by decide +kernel,rfl,by decide +kernel,by decide +kernel⟩
theorem WI{C_Seeker:Addr}(aa:ClsAt K mg "Seeker" C_Seeker)(af:NoAttr K C_Seeker "query")(ae:NoAttr K C_Seeker "levels")(aj:NoAttr K C_Seeker "looks")(ah:NoAttr K C_Seeker "names")(ao:DefOk P w K mg base "fits" 3 2 ["query", "name"] wx)(ab:mg "len" = none)(ad:mg "range" = none){f:Addr}{fd:FuncData}(M_:ZE K C_Seeker "add" f)(D_:Fun K "add" "Seeker.add" wD f fd):MetM P w K mg base "Seeker" "add" 4 1 ["self", "name"] xv:=by
 refine MetM.mk (k:=3) aa M_ D_ sc_Seeker_add rfl (fun _ _ _ _ _ _ us hl=>by obtain⟨_,_,rfl⟩:=lnz2 hl;rfl) (fun cdv A outer s H E hr=>?_)
 exact(zm (yh (i:=2) sc_Seeker_add.nd rfl (Or.inl rfl) (T1 (pv 0) aa.ns aa.cls ah rfl ab (by decide +kernel))) (zm (TW (pv 0) aa.ns aa.cls ah (zb (pv 1)) (by decide +kernel)) (zm (UZ (pv 0) aa.ns aa.cls ae zn (zb (pv 2)) (by decide +kernel)) (zm (w6 PassesOwn.never rfl (J6 rfl ad (zc zn (zc (zB zR (zL yT rfl ab PySem.boot_len (zc (uw (pv 0) aa.ns aa.cls af (by decide +kernel)) zk)) zn) zk))) (yB sc_Seeker_add.nd rfl (Or.inl rfl)) (zm (TV (pv 0) aa.ns aa.cls aj zn (by decide +kernel)) (zm (y8 (uZ (wM (zN ao (hr.mono (by decide)) (zc (XN (uw (pv 0) aa.ns aa.cls af (by decide +kernel)) jw (vZ (zb (pv 3)))) (zc (zb (pv 1)) zk)) (zg (zg zr))))) (zq Mg) zY) (zq (UZ (pv 0) aa.ns aa.cls ae (zb (pv 3)) (zb (pv 2)) (by decide +kernel)))))) (zq (XM (zb (pv 2))))))))
noncomputable abbrev ZK:Stmt:=top 49
theorem sc_law:zD ["_law_script", "_law_names_here", "_law_whole", "_law_seeker", "_law_bare", "_law_query_here", "_law_due", "_law_sign", "_law_many", "_law_turn", "_law_number", "_law_rows"] ["_law_script"] (zh ZK):=⟨rfl,rfl,rfl,by decide +kernel,rfl,by decide +kernel,by decide +kernel⟩
theorem zr1{f:Addr}{fd:FuncData}(A_:Fun K "law" "law" ZK f fd)(aB:DefR P w K mg base "_law_is_right" "Seeker" 8 0 2 ["_law_seeker", "_law_names_here", "_law_query_here"] zO)(aq:MetR P w K mg base "Seeker" "fitting" 1 0 ["self"] zJ)(az:MetR P w K mg base "Seeker" "now" 6 1 ["self", "many"] yP)(bo:MetM P w K mg base "Seeker" "hide" 2 1 ["self", "number"] x9)(aC:MetM P w K mg base "Seeker" "letter" 4 1 ["self", "sign"] zQ)(aD:MetR P w K mg base "Seeker" "looked" 1 0 ["self"] yc)(bq:MetM P w K mg base "Seeker" "back" 1 0 ["self"] xB)(br:MetM P w K mg base "Seeker" "add" 4 1 ["self", "name"] xv)(aG:ClsM P w K mg base "Seeker" 1 1 ["self", "names"] yi)(aA:DefOk P w K mg base "finds" 7 3 ["names", "query", "many"] wN)(ag:DefOk P w K mg base "_law_drawn" 2 3 ["_law_script", "_law_k", "_law_many"] zu)(bt:DefOk P w K mg base "_law_query" 3 4 ["_law_script", "_law_at", "_law_name_here", "_law_most"] xS)(bu:DefOk P w K mg base "_law_names" 4 3 ["_law_script", "_law_at", "_law_most"] xT)(ar:mg "sorted" = none)(ab:mg "len" = none)(ad:mg "range" = none)(ai:mg "list" = none):FnOk P w K mg base CX0 9 f fd ["_law_script"] (spD K 1 Gn):=by
 refine fnD (k:=8) A_ sc_law rfl fun cdv A outer s H E hr=>?_
 exact(zm (yh (i:=1) sc_law.nd rfl (Or.inl rfl) (zN bu (hr.mono (by decide)) (zc (zb (pv 0)) (zc zn (zc zn zk))) (zg (zg (zg zr))))) (zm (yh (i:=2) sc_law.nd rfl (Or.inl rfl) (zN bt (hr.mono (by decide)) (zc (zb (pv 0)) (zc zn (zc (yk yS (zB zR (zb (pv 1)) (u3 (zc vO zk))) (zN ag (hr.mono (by decide)) (zc (zb (pv 0)) (zc zn (zc (zB zR (zL yT rfl ab PySem.boot_len (zc (zb (pv 1)) zk)) zn) zk))) (zg (zg (zg zr))))) (zc zn zk)))) (zg (zg (zg (zg zr)))))) (zm (UY (i:=3) aG (hr.mono (by decide)) rfl (zc (zb (pv 1)) zk) (zg zr) sc_law.nd rfl (Or.inl rfl)) (zm (UY (i:=4) aG (hr.mono (by decide)) rfl (zc (u3 zk) zk) (zg zr) sc_law.nd rfl (Or.inr rfl)) (zm (yh (i:=5) sc_law.nd rfl (Or.inl rfl) vO) (zm (yh (i:=6) sc_law.nd rfl (Or.inl rfl) zn) (zm (w6 PassesOwn.never rfl (vv (zb (pv 2))) (yB sc_law.nd rfl (Or.inl rfl)) (zm (yh (i:=6) sc_law.nd rfl (Or.inl rfl) (zB zR (zb (pv 6)) (zL yT rfl ab PySem.boot_len (zc (wq aq (hr.mono (by decide)) (pv 3)) zk)))) (zm (yh (i:=5) sc_law.nd rfl (Or.inl rfl) (zB zR (zb (pv 5)) (zb (pv 7)))) (zm (Q6 (TX (Q7 (U1 (uy hr.units) (jx aC (hr.mono (by decide)) (pv 3) (zc (zb (pv 7)) zk) (zg zr)) (zL yT rfl ab PySem.boot_len (zc (wq aq (hr.mono (by decide)) (pv 3)) zk)) (yt _)) (U0 (Q8 (uZ (wM (ZW aB (hr.mono (by decide)) (ZU (pv 3) (zc (zb (pv 1)) (zc (zb (pv 5)) zk))) zr (fun τ ds h=>by have:=(zg (zg zr)) τ ds h;lia)))))))) (zq (zP jz)) zY) (zq (jV (jx aC (hr.mono (by decide)) (pv 4) (zc (zb (pv 7)) zk) (zg zr)))))))) (zm (y8 (yg (uy hr.units) (wq aD (hr.mono (by decide)) (pv 3)) (zb (pv 6)) (yt _)) (zq (zP jz)) zY) (zm (Q6 (TX (Q7 (U1 (uy hr.units) (TY (tn:=["_law_name_here"]) (fr:=["_law_bare"]) (idx:=[4]) (i:=4) (p:=1) (c := "Seeker") rfl rfl ⟨rfl,rfl,trivial⟩ (by decide) rfl (Lk 0) Qe (vv (zb (pv 1))) (fun s H C fp=>(yB (show List.Nodup (["_law_name_here", "_law_bare"]:List Str) by decide +kernel) rfl (Or.inl rfl))) (fun s H C fp=>(jx br (hr.mono (by decide)) (pv 1) (zc (zb (pv 0)) zk) (zg zr)))) (jy (vH rfl rfl ai rfl ad (zc (zL yT rfl ab PySem.boot_len (zc (zb (pv 1)) zk)) zk))) (yt _)) (U0 (Q8 (uZ (wM (ZW aB (hr.mono (by decide)) (ZU (pv 4) (zc (zb (pv 1)) (zc (zb (pv 2)) zk))) zr (fun τ ds h=>by have:=(zg (zg zr)) τ ds h;lia)))))))) (zq (zP jz)) zY) (zm (y8 (yg (uy hr.units) (wq aD (hr.mono (by decide)) (pv 4)) (zb (pv 6)) (yt _)) (zq (zP jz)) zY) (zm (yh (i:=8) sc_law.nd rfl (Or.inl rfl) (zN ag (hr.mono (by decide)) (zc (zb (pv 0)) (zc zn (zc (zB zR (zL yT rfl ab PySem.boot_len (zc (zb (pv 2)) zk)) zn) zk))) (zg (zg (zg zr))))) (zm (w6 PassesOwn.never rfl (wR rfl ad (zc (zb (pv 8)) zk)) (yB sc_law.nd rfl (Or.inl rfl)) (zm (jV (Mh bq (hr.mono (by decide)) (pv 3))) (zq (y8 (YR (XH (uZ (wM (ZW aB (hr.mono (by decide)) (ZU (pv 3) (zc (zb (pv 1)) (zc (XN (zb (pv 2)) jw (vZ (zB ul (zB ul (zL yT rfl ab PySem.boot_len (zc (zb (pv 2)) zk)) (zb (pv 9))) zn))) zk))) zr (fun τ ds h=>by have:=(zg (zg zr)) τ ds h;lia)))) (ZR (yg (uy hr.units) (wq aD (hr.mono (by decide)) (pv 3)) (zb (pv 6)) (yt _))))) (zq (zP jz)) zY)))) (zm (w6 PassesOwn.never rfl (vv (XN (zb (pv 2)) (vZ (zB ul (zL yT rfl ab PySem.boot_len (zc (zb (pv 2)) zk)) (zb (pv 8)))) jw)) (yB sc_law.nd rfl (Or.inl rfl)) (zq (jV (jx aC (hr.mono (by decide)) (pv 3) (zc (zb (pv 7)) zk) (zg zr))))) (zm (y8 (uZ (wM (ZW aB (hr.mono (by decide)) (ZU (pv 3) (zc (zb (pv 1)) (zc (zb (pv 2)) zk))) zr (fun τ ds h=>by have:=(zg (zg zr)) τ ds h;lia)))) (zq (zP jz)) zY) (zm (y8 (yg (wS hr.units) (zb (pv 1)) (u3 zk) (yt _)) (zq (zP jz)) zY) (zm (yh (i:=10) sc_law.nd rfl (Or.inr rfl) (zN ag (hr.mono (by decide)) (zc (zb (pv 0)) (zc zn (zc (zL yT rfl ab PySem.boot_len (zc (zb (pv 1)) zk)) zk))) (zg (zg (zg zr))))) (zm (jV (jx bo (hr.mono (by decide)) (pv 3) (zc (zb (pv 10)) zk) (zg zr))) (zm (Vb (i:=11) sc_law.nd rfl rfl rfl (tn:=["_law_row"]) (fr:=["_law_number"]) (idx:=[10]) rfl rfl ⟨rfl,rfl,trivial⟩ (vz 0) (PDI.h (vv (zN aA (hr.mono (by decide)) (zc (zb (pv 1)) (zc (zb (pv 2)) (zc zn zk))) (zg (zg (zg zr)))))) (fun s H C fp=>(yB (show List.Nodup (["_law_row", "_law_number"]:List Str) by decide +kernel) rfl (Or.inl rfl))) (fun s H C fp=>(uI (yg (uy hr.units) (yk yS (zb (pv 0)) zn) (zb (pv 1)) (yt _)))) (fun s H C fp=>(zb (pv 0)))) (zq (zP (Gc (va (wS hr.units) (Vc az (hr.mono (by decide)) (pv 3) (zc zn zk) (zg zr)) (zb (pv 11)) (yt _)) (ZV (va (wS hr.units) (wq aq (hr.mono (by decide)) (pv 3)) (zL za1 rfl ar boot_sorted (zc (jy (uJ (tn:=["_law_row"]) (fr:=[]) (idx:=[]) rfl rfl trivial (vz 0) (PDI.h (vv (zb (pv 11)))) (fun s H C fp=>(yB (show List.Nodup (["_law_row"]:List Str) by decide +kernel) rfl (Or.inl rfl))) (fun s H C fp=>ZS) (fun s H C fp=>(yk yS (zb (pv 0)) zn)))) zk)) (yt _))))))))))))))))))))))))
end
set_option autoImplicit true in
set_option relaxedAutoImplicit true in
theorem all_mk{l:PySem.W.OpenLaw}{w:World}{K:Frag}{h:Heap}{mg:Str→Option Value}{fa:Addr}(X:K.In h)(G:h.Ns mainGlobals mg)(hfa:mg "law" = some (.ref fa))(hl:∀ns:List Int,ns.length≤63→Gn [.scr ns]=.ok (.bl true))
  {f0 f1 f2 f3 f4 f5 f6 f7 f8 f9 f10 f11 f12 f13 f14 f15 f16 f17 f18 f19 f20 f21 f22 f23 f24 f25 f26 f27 f28 f29 f30 f31 f32 f33 f34 f35:Addr}
  {C_Seeker:Addr}
  (ns_Seeker:nsIn K mainGlobals "Seeker" = some (some (.ref C_Seeker)))
  (pg_Seeker:plainGet K C_Seeker Str.empty=true)
  (hd_Seeker:hasDictIn K C_Seeker=true)
  (po_Seeker:plainOver K C_Seeker=true)
  (sa_Seeker:findIn K (.ref C_Seeker) "__setattr__" = some (some (.builtin "object.__setattr__")))
  (mk_Seeker:makesIn K C_Seeker=true)
  (kc_Seeker:keepIn K (.ref C_Seeker)=true)
  (aj:findIn K (.ref C_Seeker) "looks" = some none)
  (ae:findIn K (.ref C_Seeker) "levels" = some none)
  (af:findIn K (.ref C_Seeker) "query" = some none)
  (ah:findIn K (.ref C_Seeker) "names" = some none)
  (a0:nsIn K mainGlobals "_law_cell" = some (some (.ref f0))) (l0:K.lookup f0=some ⟨oc0,od0,.func (fnOf "_law_cell" "_law_cell" (zG wm) (zx wm) (zh wm) .none kV0 dc0 pm0 an0 cd0 ct0),sl0⟩) (c0:codeIn K cd0 "_law_cell" = true) (k0:keepIn K (.ref f0)=true)
  (a1:nsIn K mainGlobals "_law_drawn" = some (some (.ref f1))) (l1:K.lookup f1=some ⟨oc1,od1,.func (fnOf "_law_drawn" "_law_drawn" (zG xP) (zx xP) (zh xP) .none kV1 dc1 pm1 an1 cd1 ct1),sl1⟩) (c1:codeIn K cd1 "_law_drawn" = true) (k1:keepIn K (.ref f1)=true)
  (a2:nsIn K mainGlobals "_law_name" = some (some (.ref f2))) (l2:K.lookup f2=some ⟨oc2,od2,.func (fnOf "_law_name" "_law_name" (zG wk) (zx wk) (zh wk) .none kV2 dc2 pm2 an2 cd2 ct2),sl2⟩) (c2:codeIn K cd2 "_law_name" = true) (k2:keepIn K (.ref f2)=true)
  (a3:nsIn K mainGlobals "_law_names" = some (some (.ref f3))) (l3:K.lookup f3=some ⟨oc3,od3,.func (fnOf "_law_names" "_law_names" (zG xO) (zx xO) (zh xO) .none kV3 dc3 pm3 an3 cd3 ct3),sl3⟩) (c3:codeIn K cd3 "_law_names" = true) (k3:keepIn K (.ref f3)=true)
  (a4:nsIn K mainGlobals "_law_mark" = some (some (.ref f4))) (l4:K.lookup f4=some ⟨oc4,od4,.func (fnOf "_law_mark" "_law_mark" (zG wl) (zx wl) (zh wl) .none kV4 dc4 pm4 an4 cd4 ct4),sl4⟩) (c4:codeIn K cd4 "_law_mark" = true) (k4:keepIn K (.ref f4)=true)
  (a5:nsIn K mainGlobals "_law_query" = some (some (.ref f5))) (l5:K.lookup f5=some ⟨oc5,od5,.func (fnOf "_law_query" "_law_query" (zG xN) (zx xN) (zh xN) .none kV5 dc5 pm5 an5 cd5 ct5),sl5⟩) (c5:codeIn K cd5 "_law_query" = true) (k5:keepIn K (.ref f5)=true)
  (a6:findIn K (.ref C_Seeker) "__init__" = some (some (.ref f6))) (i6:isFn K (.ref f6)=true) (l6:K.lookup f6=some ⟨oc6,od6,.func (fnOf "__init__" "Seeker.__init__" (zG yW) (zx yW) (zh yW) .none kV6 dc6 pm6 an6 cd6 ct6),sl6⟩) (c6:codeIn K cd6 "Seeker.__init__" = true) (k6:keepIn K (.ref f6)=true)
  (a7:nsIn K mainGlobals "in_order" = some (some (.ref f7))) (l7:K.lookup f7=some ⟨oc7,od7,.func (fnOf "in_order" "in_order" (zG vn) (zx vn) (zh vn) .none kV7 dc7 pm7 an7 (.ref cc7) ct7),sl7⟩) (c7:codeIn K (.ref cc7) "in_order" = true) (k7:keepIn K (.ref f7)=true) (tb7:PySem.W.codeHdIn K cc7 145=true)
  (a8:nsIn K mainGlobals "first_rows" = some (some (.ref f8))) (l8:K.lookup f8=some ⟨oc8,od8,.func (fnOf "first_rows" "first_rows" (zG xM) (zx xM) (zh xM) .none kV8 dc8 pm8 an8 cd8 ct8),sl8⟩) (c8:codeIn K cd8 "first_rows" = true) (k8:keepIn K (.ref f8)=true)
  (a9:nsIn K mainGlobals "beginning_points" = some (some (.ref f9))) (l9:K.lookup f9=some ⟨oc9,od9,.func (fnOf "beginning_points" "beginning_points" (zG yA) (zx yA) (zh yA) .none kV9 dc9 pm9 an9 cd9 ct9),sl9⟩) (c9:codeIn K cd9 "beginning_points" = true) (k9:keepIn K (.ref f9)=true)
  (a10:nsIn K mainGlobals "own_points" = some (some (.ref f10))) (l10:K.lookup f10=some ⟨oc10,od10,.func (fnOf "own_points" "own_points" (zG xL) (zx xL) (zh xL) .none kV10 dc10 pm10 an10 cd10 ct10),sl10⟩) (c10:codeIn K cd10 "own_points" = true) (k10:keepIn K (.ref f10)=true)
  (a11:nsIn K mainGlobals "meets" = some (some (.ref f11))) (l11:K.lookup f11=some ⟨oc11,od11,.func (fnOf "meets" "meets" (zG uW) (zx uW) (zh uW) .none kV11 dc11 pm11 an11 cd11 ct11),sl11⟩) (c11:codeIn K cd11 "meets" = true) (k11:keepIn K (.ref f11)=true)
  (a12:nsIn K mainGlobals "last_sign_tails" = some (some (.ref f12))) (l12:K.lookup f12=some ⟨oc12,od12,.func (fnOf "last_sign_tails" "last_sign_tails" (zG yE) (zx yE) (zh yE) .none kV12 dc12 pm12 an12 cd12 ct12),sl12⟩) (c12:codeIn K cd12 "last_sign_tails" = true) (k12:keepIn K (.ref f12)=true)
  (a13:nsIn K mainGlobals "first_of_most" = some (some (.ref f13))) (l13:K.lookup f13=some ⟨oc13,od13,.func (fnOf "first_of_most" "first_of_most" (zG yZ) (zx yZ) (zh yZ) .none kV13 dc13 pm13 an13 cd13 ct13),sl13⟩) (c13:codeIn K cd13 "first_of_most" = true) (k13:keepIn K (.ref f13)=true)
  (a14:nsIn K mainGlobals "link_points" = some (some (.ref f14))) (l14:K.lookup f14=some ⟨oc14,od14,.func (fnOf "link_points" "link_points" (zG xx) (zx xx) (zh xx) .none kV14 dc14 pm14 an14 cd14 ct14),sl14⟩) (c14:codeIn K cd14 "link_points" = true) (k14:keepIn K (.ref f14)=true)
  (a15:nsIn K mainGlobals "linked_tails" = some (some (.ref f15))) (l15:K.lookup f15=some ⟨oc15,od15,.func (fnOf "linked_tails" "linked_tails" (zG xk) (zx xk) (zh xk) .none kV15 dc15 pm15 an15 cd15 ct15),sl15⟩) (c15:codeIn K cd15 "linked_tails" = true) (k15:keepIn K (.ref f15)=true)
  (a16:nsIn K mainGlobals "longer_tails" = some (some (.ref f16))) (l16:K.lookup f16=some ⟨oc16,od16,.func (fnOf "longer_tails" "longer_tails" (zG xj) (zx xj) (zh xj) .none kV16 dc16 pm16 an16 cd16 ct16),sl16⟩) (c16:codeIn K cd16 "longer_tails" = true) (k16:keepIn K (.ref f16)=true)
  (a17:nsIn K mainGlobals "lead_points" = some (some (.ref f17))) (l17:K.lookup f17=some ⟨oc17,od17,.func (fnOf "lead_points" "lead_points" (zG xz) (zx xz) (zh xz) .none kV17 dc17 pm17 an17 cd17 ct17),sl17⟩) (c17:codeIn K cd17 "lead_points" = true) (k17:keepIn K (.ref f17)=true)
  (a18:nsIn K mainGlobals "best" = some (some (.ref f18))) (l18:K.lookup f18=some ⟨oc18,od18,.func (fnOf "best" "best" (zG Zn) (zx Zn) (zh Zn) .none kV18 dc18 pm18 an18 cd18 ct18),sl18⟩) (c18:codeIn K cd18 "best" = true) (k18:keepIn K (.ref f18)=true)
  (a19:nsIn K mainGlobals "fitting_rows" = some (some (.ref f19))) (l19:K.lookup f19=some ⟨oc19,od19,.func (fnOf "fitting_rows" "fitting_rows" (zG xl) (zx xl) (zh xl) .none kV19 dc19 pm19 an19 cd19 ct19),sl19⟩) (c19:codeIn K cd19 "fitting_rows" = true) (k19:keepIn K (.ref f19)=true)
  (a20:nsIn K mainGlobals "all_rows" = some (some (.ref f20))) (l20:K.lookup f20=some ⟨oc20,od20,.func (fnOf "all_rows" "all_rows" (zG wQ) (zx wQ) (zh wQ) .none kV20 dc20 pm20 an20 cd20 ct20),sl20⟩) (c20:codeIn K cd20 "all_rows" = true) (k20:keepIn K (.ref f20)=true)
  (a21:nsIn K mainGlobals "finds" = some (some (.ref f21))) (l21:K.lookup f21=some ⟨oc21,od21,.func (fnOf "finds" "finds" (zG uX) (zx uX) (zh uX) .none kV21 dc21 pm21 an21 cd21 ct21),sl21⟩) (c21:codeIn K cd21 "finds" = true) (k21:keepIn K (.ref f21)=true)
  (a22:nsIn K mainGlobals "earliest_places" = some (some (.ref f22))) (l22:K.lookup f22=some ⟨oc22,od22,.func (fnOf "earliest_places" "earliest_places" (zG yF) (zx yF) (zh yF) .none kV22 dc22 pm22 an22 cd22 ct22),sl22⟩) (c22:codeIn K cd22 "earliest_places" = true) (k22:keepIn K (.ref f22)=true)
  (a23:nsIn K mainGlobals "fits" = some (some (.ref f23))) (l23:K.lookup f23=some ⟨oc23,od23,.func (fnOf "fits" "fits" (zG Zm) (zx Zm) (zh Zm) .none kV23 dc23 pm23 an23 cd23 ct23),sl23⟩) (c23:codeIn K cd23 "fits" = true) (k23:keepIn K (.ref f23)=true)
  (a24:findIn K (.ref C_Seeker) "now" = some (some (.ref f24))) (i24:isFn K (.ref f24)=true) (l24:K.lookup f24=some ⟨oc24,od24,.func (fnOf "now" "Seeker.now" (zG wC) (zx wC) (zh wC) .none kV24 dc24 pm24 an24 cd24 ct24),sl24⟩) (c24:codeIn K cd24 "Seeker.now" = true) (k24:keepIn K (.ref f24)=true)
  (a25:findIn K (.ref C_Seeker) "typed" = some (some (.ref f25))) (i25:isFn K (.ref f25)=true) (l25:K.lookup f25=some ⟨oc25,od25,.func (fnOf "typed" "Seeker.typed" (zG xE) (zx xE) (zh xE) .none kV25 dc25 pm25 an25 cd25 ct25),sl25⟩) (c25:codeIn K cd25 "Seeker.typed" = true) (k25:keepIn K (.ref f25)=true)
  (a26:findIn K (.ref C_Seeker) "fitting" = some (some (.ref f26))) (i26:isFn K (.ref f26)=true) (l26:K.lookup f26=some ⟨oc26,od26,.func (fnOf "fitting" "Seeker.fitting" (zG xi) (zx xi) (zh xi) .none kV26 dc26 pm26 an26 cd26 ct26),sl26⟩) (c26:codeIn K cd26 "Seeker.fitting" = true) (k26:keepIn K (.ref f26)=true)
  (a27:nsIn K mainGlobals "_law_is_right" = some (some (.ref f27))) (l27:K.lookup f27=some ⟨oc27,od27,.func (fnOf "_law_is_right" "_law_is_right" (zG y0) (zx y0) (zh y0) .none kV27 dc27 pm27 an27 cd27 ct27),sl27⟩) (c27:codeIn K cd27 "_law_is_right" = true) (k27:keepIn K (.ref f27)=true)
  (a28:nsIn K mainGlobals "without" = some (some (.ref f28))) (l28:K.lookup f28=some ⟨oc28,od28,.func (fnOf "without" "without" (zG vm) (zx vm) (zh vm) .none kV28 dc28 pm28 an28 cd28 ct28),sl28⟩) (c28:codeIn K cd28 "without" = true) (k28:keepIn K (.ref f28)=true)
  (a29:findIn K (.ref C_Seeker) "hide" = some (some (.ref f29))) (i29:isFn K (.ref f29)=true) (l29:K.lookup f29=some ⟨oc29,od29,.func (fnOf "hide" "Seeker.hide" (zG x6) (zx x6) (zh x6) .none kV29 dc29 pm29 an29 cd29 ct29),sl29⟩) (c29:codeIn K cd29 "Seeker.hide" = true) (k29:keepIn K (.ref f29)=true)
  (a30:nsIn K mainGlobals "is_query_sign" = some (some (.ref f30))) (l30:K.lookup f30=some ⟨oc30,od30,.func (fnOf "is_query_sign" "is_query_sign" (zG yY) (zx yY) (zh yY) .none kV30 dc30 pm30 an30 cd30 ct30),sl30⟩) (c30:codeIn K cd30 "is_query_sign" = true) (k30:keepIn K (.ref f30)=true)
  (a31:findIn K (.ref C_Seeker) "letter" = some (some (.ref f31))) (i31:isFn K (.ref f31)=true) (l31:K.lookup f31=some ⟨oc31,od31,.func (fnOf "letter" "Seeker.letter" (zG xu) (zx xu) (zh xu) .none kV31 dc31 pm31 an31 cd31 ct31),sl31⟩) (c31:codeIn K cd31 "Seeker.letter" = true) (k31:keepIn K (.ref f31)=true)
  (a32:findIn K (.ref C_Seeker) "looked" = some (some (.ref f32))) (i32:isFn K (.ref f32)=true) (l32:K.lookup f32=some ⟨oc32,od32,.func (fnOf "looked" "Seeker.looked" (zG xr) (zx xr) (zh xr) .none kV32 dc32 pm32 an32 cd32 ct32),sl32⟩) (c32:codeIn K cd32 "Seeker.looked" = true) (k32:keepIn K (.ref f32)=true)
  (a33:findIn K (.ref C_Seeker) "back" = some (some (.ref f33))) (i33:isFn K (.ref f33)=true) (l33:K.lookup f33=some ⟨oc33,od33,.func (fnOf "back" "Seeker.back" (zG x8) (zx x8) (zh x8) .none kV33 dc33 pm33 an33 cd33 ct33),sl33⟩) (c33:codeIn K cd33 "Seeker.back" = true) (k33:keepIn K (.ref f33)=true)
  (a34:findIn K (.ref C_Seeker) "add" = some (some (.ref f34))) (i34:isFn K (.ref f34)=true) (l34:K.lookup f34=some ⟨oc34,od34,.func (fnOf "add" "Seeker.add" (zG wD) (zx wD) (zh wD) .none kV34 dc34 pm34 an34 cd34 ct34),sl34⟩) (c34:codeIn K cd34 "Seeker.add" = true) (k34:keepIn K (.ref f34)=true)
  (a35:nsIn K mainGlobals "law" = some (some (.ref f35))) (l35:K.lookup f35=some ⟨oc35,od35,.func (fnOf "law" "law" (zG ZK) (zx ZK) (zh ZK) .none kV35 dc35 pm35 an35 cd35 ct35),sl35⟩) (c35:codeIn K cd35 "law" = true) (k35:keepIn K (.ref f35)=true)
  (au:nsIn K mainGlobals "FIGURES" = some (some (.str "0123456789" t_FIGURES)))
  (al:nsIn K mainGlobals "SMALL" = some (some (.str "abcdefghijklmnopqrstuvwxyz" t_SMALL)))
  (av:nsIn K mainGlobals "GREAT" = some (some (.str "ABCDEFGHIJKLMNOPQRSTUVWXYZ" t_GREAT)))
  (aM:nsIn K mainGlobals "AT_GREAT" = some (some (.int 5 t_AT_GREAT)))
  (aN:nsIn K mainGlobals "MARKS" = some (some (.str "_-./" t_MARKS)))
  (aO:nsIn K mainGlobals "BEHIND_MARK" = some (some (.int 6 t_BEHIND_MARK)))
  (aP:nsIn K mainGlobals "AT_BEGINNING" = some (some (.int 8 t_AT_BEGINNING)))
  (aR:nsIn K mainGlobals "EACH_PLACE" = some (some (.int 10 t_EACH_PLACE)))
  (aS:nsIn K mainGlobals "SAME_SIGN" = some (some (.int 1 t_SAME_SIGN)))
  (aT:nsIn K mainGlobals "MOST_BETWEEN" = some (some (.int 5 t_MOST_BETWEEN)))
  (aU:nsIn K mainGlobals "BESIDE" = some (some (.int 7 t_BESIDE)))
  (aX:nsIn K mainGlobals "MOST_AHEAD" = some (some (.int 3 t_MOST_AHEAD)))
  (bn:nsIn K mainGlobals "LONGEST_QUERY" = some (some (.int 8 t_LONGEST_QUERY)))
  (ab:nsIn K mainGlobals "len" = some none)
  (ad:nsIn K mainGlobals "range" = some none)
  (ak:nsIn K mainGlobals "min" = some none)
  (ai:nsIn K mainGlobals "list" = some none)
  (ar:nsIn K mainGlobals "sorted" = some none)
  (aL:nsIn K mainGlobals "max" = some none)
  (bi:nsIn K mainGlobals "enumerate" = some none)
  : zb2 K∧∃fd:FuncData,(∀(s:Shared) (v:Value),BindsTo s fd ⟨[v],[]⟩ [("_law_script", v)])∧∀base:Heap,K.In base→base.Ns mainGlobals mg→BM mg base→FnOk l.prog w K mg base CX0 9 fa fd ["_law_script"] (QN K):=by
 have e:=hfa.symm.trans (mg_of X G a35)
 cases e
 refine⟨fun r hr=>?_,?_⟩
 ·rcases hr with _|⟨_,hr⟩
  ·exact⟨_,tb7⟩
  ·cases hr
 have aa:ClsAt K mg "Seeker" C_Seeker:=⟨ns_Seeker,⟨pg_Seeker,hd_Seeker,po_Seeker,sa_Seeker⟩,mg_of X G ns_Seeker⟩
 have D0:z7 K mg "_law_cell" wm f0 _:=⟨ym (st:=wm) l0 c0 k0,mg_of X G a0⟩
 have D1:z7 K mg "_law_drawn" xP f1 _:=⟨ym (st:=xP) l1 c1 k1,mg_of X G a1⟩
 have D2:z7 K mg "_law_name" wk f2 _:=⟨ym (st:=wk) l2 c2 k2,mg_of X G a2⟩
 have D3:z7 K mg "_law_names" xO f3 _:=⟨ym (st:=xO) l3 c3 k3,mg_of X G a3⟩
 have D4:z7 K mg "_law_mark" wl f4 _:=⟨ym (st:=wl) l4 c4 k4,mg_of X G a4⟩
 have D5:z7 K mg "_law_query" xN f5 _:=⟨ym (st:=xN) l5 c5 k5,mg_of X G a5⟩
 have D7:QH K mg "in_order" vn f7 cc7 145:=⟨⟨_,_,_,_,_,_,_,_,l7⟩,c7,k7,mg_of X G a7,tb7⟩
 have D8:z7 K mg "first_rows" xM f8 _:=⟨ym (st:=xM) l8 c8 k8,mg_of X G a8⟩
 have D9:z7 K mg "beginning_points" yA f9 _:=⟨ym (st:=yA) l9 c9 k9,mg_of X G a9⟩
 have D10:z7 K mg "own_points" xL f10 _:=⟨ym (st:=xL) l10 c10 k10,mg_of X G a10⟩
 have D11:z7 K mg "meets" uW f11 _:=⟨ym (st:=uW) l11 c11 k11,mg_of X G a11⟩
 have D12:z7 K mg "last_sign_tails" yE f12 _:=⟨ym (st:=yE) l12 c12 k12,mg_of X G a12⟩
 have D13:z7 K mg "first_of_most" yZ f13 _:=⟨ym (st:=yZ) l13 c13 k13,mg_of X G a13⟩
 have D14:z7 K mg "link_points" xx f14 _:=⟨ym (st:=xx) l14 c14 k14,mg_of X G a14⟩
 have D15:z7 K mg "linked_tails" xk f15 _:=⟨ym (st:=xk) l15 c15 k15,mg_of X G a15⟩
 have D16:z7 K mg "longer_tails" xj f16 _:=⟨ym (st:=xj) l16 c16 k16,mg_of X G a16⟩
 have D17:z7 K mg "lead_points" xz f17 _:=⟨ym (st:=xz) l17 c17 k17,mg_of X G a17⟩
 have D18:z7 K mg "best" Zn f18 _:=⟨ym (st:=Zn) l18 c18 k18,mg_of X G a18⟩
 have D19:z7 K mg "fitting_rows" xl f19 _:=⟨ym (st:=xl) l19 c19 k19,mg_of X G a19⟩
 have D20:z7 K mg "all_rows" wQ f20 _:=⟨ym (st:=wQ) l20 c20 k20,mg_of X G a20⟩
 have D21:z7 K mg "finds" uX f21 _:=⟨ym (st:=uX) l21 c21 k21,mg_of X G a21⟩
 have D22:z7 K mg "earliest_places" yF f22 _:=⟨ym (st:=yF) l22 c22 k22,mg_of X G a22⟩
 have D23:z7 K mg "fits" Zm f23 _:=⟨ym (st:=Zm) l23 c23 k23,mg_of X G a23⟩
 have D27:z7 K mg "_law_is_right" y0 f27 _:=⟨ym (st:=y0) l27 c27 k27,mg_of X G a27⟩
 have D28:z7 K mg "without" vm f28 _:=⟨ym (st:=vm) l28 c28 k28,mg_of X G a28⟩
 have D30:z7 K mg "is_query_sign" yY f30 _:=⟨ym (st:=yY) l30 c30 k30,mg_of X G a30⟩
 refine Y11 (fnOf "law" "law" (zG ZK) (zx ZK) (zh ZK) .none kV35 dc35 pm35 an35 cd35 ct35) (fun s v=>.of_eq rfl) (fun base _ _ bm=>?_)
 have aH:DefOk l.prog w K mg base "_law_cell" 1 2 ["_law_script", "_law_k"] wX:=V9 D0 (mg_none_of X G ab)
 have ag:DefOk l.prog w K mg base "_law_drawn" 2 3 ["_law_script", "_law_k", "_law_many"] zu:=WG D1 aH
 have aI:DefOk l.prog w K mg base "_law_name" 3 2 ["_law_script", "_law_at"] xI:=V7 D2 ag (mg_none_of X G ad)
 have bu:DefOk l.prog w K mg base "_law_names" 4 3 ["_law_script", "_law_at", "_law_most"] xT:=WF D3 ag aI (mg_none_of X G ab) (mg_none_of X G ad)
 have aJ:DefOk l.prog w K mg base "_law_mark" 1 1 ["_law_sign"] xJ:=V8 D4
 have bt:DefOk l.prog w K mg base "_law_query" 3 4 ["_law_script", "_law_at", "_law_name_here", "_law_most"] xS:=WE D5 ag aJ (mg_none_of X G ad) (mg_none_of X G ab) (mg_none_of X G ak)
 have aG:=Zs (P:=l.prog) (w:=w) (base:=base) aa aj ae af ah (mg_none_of X G ab) (mg_none_of X G ai) (mg_none_of X G ad) ⟨mk_Seeker,a6,i6,kc_Seeker⟩ (ym (st:=yW) l6 c6 k6)
 have aK:DefOk l.prog w K mg base "in_order" 4 2 ["names", "rows"] ww:=U6 D7 bm (mg_none_of X G ab) (mg_none_of X G ar)
 have aE:DefN l.prog w K mg base "first_rows" 5 3 ["names", "rows", "many"] xh:=WD D8 aK (mg_none_of X G aL)
 have be:DefOk l.prog w K mg base "first_rows" 5 3 ["names", "rows", "many"] xR:=DefN.ok aE
 have aQ:DefOk l.prog w K mg base "beginning_points" 1 2 ["name", "place"] yN:=j7 D9 (mg_of X G au) (mg_of X G al) (mg_of X G av) (mg_of X G aM) (mg_of X G aN) (mg_of X G aO) (mg_of X G aP)
 have aw:DefOk l.prog w K mg base "own_points" 2 3 ["sign", "name", "place"] yH:=WC D10 aQ (mg_of X G aR) (mg_of X G aS)
 have am:DefOk l.prog w K mg base "meets" 1 2 ["sign", "other"] wc:=Lb D11 (mg_of X G al)
 have ba:DefOk l.prog w K mg base "last_sign_tails" 3 2 ["sign", "name"] yv:=Zq D12 am aw (mg_none_of X G ab) (mg_none_of X G ad)
 have ax:DefOk l.prog w K mg base "first_of_most" 1 1 ["tails"] zW:=YA D13
 have aV:DefOk l.prog w K mg base "link_points" 1 2 ["ahead", "place"] xA:=XT D14 (mg_of X G aT) (mg_of X G aU) (mg_none_of X G ak)
 have aW:DefOk l.prog w K mg base "linked_tails" 2 2 ["place", "tails"] yR:=Xb D15 aV
 have aZ:DefOk l.prog w K mg base "longer_tails" 3 3 ["sign", "name", "tails"] xn:=Xa D16 am aw aW ax (mg_none_of X G ab) (mg_none_of X G ad)
 have aY:DefOk l.prog w K mg base "lead_points" 1 1 ["place"] xg:=XU D17 (mg_of X G aX) (mg_none_of X G ak)
 have bb:DefOk l.prog w K mg base "best" 4 2 ["query", "name"] uA:=zf7 D18 aY ax aZ ba (mg_none_of X G ab) (mg_none_of X G ad)
 have ay:DefOk l.prog w K mg base "fitting_rows" 5 3 ["names", "query", "numbers"] yb:=Xc D19 bb
 have bc:DefOk l.prog w K mg base "all_rows" 6 2 ["names", "query"] wy:=U7 D20 ay (mg_none_of X G ab) (mg_none_of X G ai) (mg_none_of X G ad)
 have aA:DefOk l.prog w K mg base "finds" 7 3 ["names", "query", "many"] wN:=Lc D21 bc be
 have bf:DefOk l.prog w K mg base "earliest_places" 2 2 ["query", "name"] yX:=Zr D22 am (mg_none_of X G ab) (mg_none_of X G ad)
 have ao:DefOk l.prog w K mg base "fits" 3 2 ["query", "name"] wx:=zf6 D23 bf (mg_none_of X G ab)
 have az:=WH (P:=l.prog) (w:=w) (base:=base) aa ae af ah ay aE ⟨a24,i24,k24⟩ (ym (st:=wC) l24 c24 k24)
 have bg:=Xd (P:=l.prog) (w:=w) (base:=base) aa af ⟨a25,i25,k25⟩ (ym (st:=xE) l25 c25 k25)
 have aq:=Z0 (P:=l.prog) (w:=w) (base:=base) aa ae (mg_none_of X G ai) ⟨a26,i26,k26⟩ (ym (st:=xi) l26 c26 k26)
 have aB:=YB (P:=l.prog) (w:=w) (base:=base) D27 az aq bg aA ao (mg_none_of X G bi)
 have aF:DefN l.prog w K mg base "without" 1 2 ["number", "level"] xU:=Qb D28
 have bv:DefOk l.prog w K mg base "without" 1 2 ["number", "level"] Mz:=DefN.ok aF
 have bo:=XV (P:=l.prog) (w:=w) (base:=base) aa ae aF ⟨a29,i29,k29⟩ (ym (st:=x6) l29 c29 k29)
 have bj:DefOk l.prog w K mg base "is_query_sign" 1 1 ["sign"] y9:=Yz D30 (mg_of X G au) (mg_of X G av) (mg_of X G al)
 have aC:=YD (P:=l.prog) (w:=w) (base:=base) aa ah af ae aj ao bj (mg_of X G bn) (mg_none_of X G ab) ⟨a31,i31,k31⟩ (ym (st:=xu) l31 c31 k31)
 have aD:=YC (P:=l.prog) (w:=w) (base:=base) aa aj ⟨a32,i32,k32⟩ (ym (st:=xr) l32 c32 k32)
 have bq:=XW (P:=l.prog) (w:=w) (base:=base) aa ae af (mg_none_of X G ab) ⟨a33,i33,k33⟩ (ym (st:=x8) l33 c33 k33)
 have br:=WI (P:=l.prog) (w:=w) (base:=base) aa af ae aj ah ao (mg_none_of X G ab) (mg_none_of X G ad) ⟨a34,i34,k34⟩ (ym (st:=wD) l34 c34 k34)
 exact zs6 (zr1 (ym (st:=ZK) l35 c35 k35) aB aq az bo aC aD bq br aG aA ag bt bu (mg_none_of X G ar) (mg_none_of X G ab) (mg_none_of X G ad) (mg_none_of X G ai)) hl
end Law
open PySem PySem.W PyProof.Rows
theorem PySem.W.Fast.te11852496281186305494:True:=trivial
set_option maxRecDepth 100000 in
set_option maxHeartbeats 0 in
theorem PySem.Challenge.cw_fewfind_k31_whole_seekers_holds : PySem.Challenge.rw_fewfind_k31_whole_seekers.Holds := by
 w_on;o_law;k_head;(case hw=>w_witness2)
 k_fill
 refine FD.walkM (l:=PySem.Challenge.rw_fewfind_k31_whole_seekers) (k:=9) (p := "_law_script") rfl rfl ⟨rfl,by decide,by decide⟩ ?T ?F
 case F=>
  intro w mg fa h KX G hmg
  refine' Law.all_mk KX G hmg Law.main ..
  any_goals first|k_is|k_exc|with_unfolding_all rfl
 case T=>decide
